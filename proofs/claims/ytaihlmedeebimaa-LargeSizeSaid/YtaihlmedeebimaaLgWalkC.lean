/- Walks: each, of each closure. Written by tools/mk_lgeach.py. -/
import Derived.Test.YtaihlmedeebimaaLgWalkB
namespace Go.Proofs.Ytaihlmedeebimaa.Lg
open Go.RowKit
set_option linter.all false

theorem poly_size : (Try.prog.info? 23).map (·.size) = some 256 := by kernel_rfl
theorem poly_sized {cs : Array Value} {p : Nat → Int} (h : IsP cs p) : (Try.prog.info? 23).map (·.size) = some cs.size := by rw [h.1]; exact poly_size
theorem zero_poly : ∃ Z : Array Value, (∀ w, (zeroValue 23).run Try.prog w = .ok (.agg Z) w) ∧ IsP Z (fun _ => 0) := by
  have h : (Try.prog.info? 23).map (fun i => i.zero) = some (some (.agg (Array.replicate 256 (.int .i64 0)))) := by kernel_rfl
  obtain ⟨i, hi, e⟩ := Option.map_eq_some_iff.1 h
  refine ⟨Array.replicate 256 (.int .i64 0), fun w => ?_, by simp, fun i hi => by simp [hi]⟩
  simp [zeroValue, typeInfo, hi, e]

def partx (x : Nat → Int) (k : Nat) : Nat → Int := fun i => if i < k then x i else 0
theorem partx_succ {w : World} {b k : Nat} {t : TypeId} {x : Nat → Int} (h : w.rowIs b t 256 (ints (partx x k))) : (w.setCell ⟨b, k, none⟩ (.int .i64 (x k))).rowIs b t 256 (ints (partx x (k + 1))) :=
  row_is (row_set h k _) fun i _ => by
    unfold partx
    by_cases e : i = k
    · subst e; rw [if_pos rfl, if_pos (by omega)]
    · rw [if_neg e]
      by_cases h : i < k
      · rw [if_pos h, if_pos (by omega)]
      · rw [if_neg h, if_neg (by omega)]
theorem partx_zero {Z : Array Value} (h : IsP Z (fun _ => 0)) (x : Nat → Int) : IsP Z (partx x 0) := h.congr fun i _ => by unfold partx; rw [if_neg (by omega)]
theorem partx_all {cs : Array Value} {x : Nat → Int} (h : IsP cs (partx x 256)) : IsP cs x := h.congr fun i hi => by unfold partx; rw [if_pos hi]

set_option maxHeartbeats 800000 in
set_option maxRecDepth 100000 in
theorem each_mod1 (A : Addr) (x : Nat → Int) (w : World)
    (hcl : ∀ (W : World) (i : Nat), i < 256 → Below w.heap.size w W → Calls Try.prog 28 #[.int .i64 i, .pointer (some A)] W fun e W' => e = .returned (.int .i64 (x i)) ∧ ∃ n, W' = W.drewN n) :
    Calls Try.prog 27 #[.func (.func 28) #[] #[.pointer (some A)]] w fun e w' => ∃ cs, e = .returned (.agg cs) ∧ IsP cs x ∧ Below w.heap.size w w' := by
  have HC := Lib.hid hcl; clear hcl
  obtain ⟨Z, hz, hZ⟩ := zero_poly
  have HZ := Lib.hid hZ; clear hZ
  have HS0 := Lib.hid hz
  go_enter Try.func27, Try.ntmps27
  go_wp2
  clear hz
  go_loopw [5] (fun i W => ∃ k : Nat, k ≤ 256 ∧ i = .int .i64 k ∧ Hid (W.rowIs (w.heap.size + 1) 23 256 (ints (partx x k))) ∧ Hid (W.heap[w.heap.size]? = some (.cells Z 23 (0, 0))) ∧ Hid (Below w.heap.size w W)) (fun i _ => 256 - (intOf i).toNat)
  case atStart =>
    have e : (w.alloc (.cells Z 23)).heap.size = w.heap.size + 1 := by simp
    have r := row_of (heap_alloc_last (w.alloc (.cells Z 23)) (.cells Z 23)) (partx_zero HZ.out x)
    rw [e] at r
    exact ⟨0, by omega, rfl, Lib.hid r, Lib.hid ((Below.heap_alloc _ _ _ (by omega)).trans (heap_alloc_last w _)), Lib.hid (((Below.refl _ _).alloc (Nat.le_refl _) _).alloc (by simp) _)⟩
  case round =>
    obtain ⟨k, hk, rfl, HR, HQ, HB⟩ := hrel
    by_cases hlt : k < 256
    · go_wp2_with fail
      refine (HC.out _ k hlt HB.out).mono ?_
      rintro e' w' ⟨rfl, n, rfl⟩
      have d := (rowIs_drewN HR.out n).frozen k
      have hc := (rowIs_drewN HR.out n).cell hlt
      go_wp2
      go_roundw
      case rel => exact ⟨k + 1, by omega, by go_num, Lib.hid (partx_succ (rowIs_drewN HR.out n)), Lib.hid ((Below.heap_setCell (wr.drewN n) _ _ _ (by show w.heap.size ≠ w.heap.size + 1; omega)).trans HQ.out), Lib.hid ((below_drewN HB.out n).setCell (by show w.heap.size ≤ w.heap.size + 1; omega) _)⟩
      case measure => simp [intOf]; omega
    · obtain rfl : k = 256 := by omega
      obtain ⟨cs, hcs, hP⟩ := of_row HR.out
      have hP' := partx_all hP
      clear hP
      have hi := poly_sized hP'
      have hzm : Z.size = cs.size := by rw [HZ.out.1, hP'.1]
      have H1 := Lib.hid hcs; have H2 := Lib.hid hP'; have H3 := Lib.hid hi; have H4 := Lib.hid hzm; clear hcs hP' hi hzm
      go_wp2_with (first | (refine wpList_load_row rfl 23 (.tmp 3) rfl (w.heap.size + 1) rfl 23 cs (0, 0) _ H1.out Try.underlying23 rfl H3.out ?_) | (refine wpList_store_row rfl 23 (.tmp 2) (.tmp 14) rfl w.heap.size cs rfl rfl 23 Z HQ.out H3.out H4.out H2.out.cells ?_))
      refine bodyPost_ret (v := .agg cs) (results_cell_row (p := 2) (ty := 23) (by kernel_rfl) _ _ w.heap.size 23 cs (0, 0) _ rfl (setRow_heap _ _ _ _ _ _ HQ.out) Try.underlying23 rfl H3.out) rfl ⟨cs, rfl, H2.out, below_setRow HB.out (Nat.le_refl _) _⟩

set_option maxHeartbeats 800000 in
set_option maxRecDepth 100000 in
theorem each_cen1 (A : Addr) (x : Nat → Int) (w : World)
    (hcl : ∀ (W : World) (i : Nat), i < 256 → Below w.heap.size w W → Calls Try.prog 31 #[.int .i64 i, .pointer (some A)] W fun e W' => e = .returned (.int .i64 (x i)) ∧ ∃ n, W' = W.drewN n) :
    Calls Try.prog 27 #[.func (.func 31) #[] #[.pointer (some A)]] w fun e w' => ∃ cs, e = .returned (.agg cs) ∧ IsP cs x ∧ Below w.heap.size w w' := by
  have HC := Lib.hid hcl; clear hcl
  obtain ⟨Z, hz, hZ⟩ := zero_poly
  have HZ := Lib.hid hZ; clear hZ
  have HS0 := Lib.hid hz
  go_enter Try.func27, Try.ntmps27
  go_wp2
  clear hz
  go_loopw [5] (fun i W => ∃ k : Nat, k ≤ 256 ∧ i = .int .i64 k ∧ Hid (W.rowIs (w.heap.size + 1) 23 256 (ints (partx x k))) ∧ Hid (W.heap[w.heap.size]? = some (.cells Z 23 (0, 0))) ∧ Hid (Below w.heap.size w W)) (fun i _ => 256 - (intOf i).toNat)
  case atStart =>
    have e : (w.alloc (.cells Z 23)).heap.size = w.heap.size + 1 := by simp
    have r := row_of (heap_alloc_last (w.alloc (.cells Z 23)) (.cells Z 23)) (partx_zero HZ.out x)
    rw [e] at r
    exact ⟨0, by omega, rfl, Lib.hid r, Lib.hid ((Below.heap_alloc _ _ _ (by omega)).trans (heap_alloc_last w _)), Lib.hid (((Below.refl _ _).alloc (Nat.le_refl _) _).alloc (by simp) _)⟩
  case round =>
    obtain ⟨k, hk, rfl, HR, HQ, HB⟩ := hrel
    by_cases hlt : k < 256
    · go_wp2_with fail
      refine (HC.out _ k hlt HB.out).mono ?_
      rintro e' w' ⟨rfl, n, rfl⟩
      have d := (rowIs_drewN HR.out n).frozen k
      have hc := (rowIs_drewN HR.out n).cell hlt
      go_wp2
      go_roundw
      case rel => exact ⟨k + 1, by omega, by go_num, Lib.hid (partx_succ (rowIs_drewN HR.out n)), Lib.hid ((Below.heap_setCell (wr.drewN n) _ _ _ (by show w.heap.size ≠ w.heap.size + 1; omega)).trans HQ.out), Lib.hid ((below_drewN HB.out n).setCell (by show w.heap.size ≤ w.heap.size + 1; omega) _)⟩
      case measure => simp [intOf]; omega
    · obtain rfl : k = 256 := by omega
      obtain ⟨cs, hcs, hP⟩ := of_row HR.out
      have hP' := partx_all hP
      clear hP
      have hi := poly_sized hP'
      have hzm : Z.size = cs.size := by rw [HZ.out.1, hP'.1]
      have H1 := Lib.hid hcs; have H2 := Lib.hid hP'; have H3 := Lib.hid hi; have H4 := Lib.hid hzm; clear hcs hP' hi hzm
      go_wp2_with (first | (refine wpList_load_row rfl 23 (.tmp 3) rfl (w.heap.size + 1) rfl 23 cs (0, 0) _ H1.out Try.underlying23 rfl H3.out ?_) | (refine wpList_store_row rfl 23 (.tmp 2) (.tmp 14) rfl w.heap.size cs rfl rfl 23 Z HQ.out H3.out H4.out H2.out.cells ?_))
      refine bodyPost_ret (v := .agg cs) (results_cell_row (p := 2) (ty := 23) (by kernel_rfl) _ _ w.heap.size 23 cs (0, 0) _ rfl (setRow_heap _ _ _ _ _ _ HQ.out) Try.underlying23 rfl H3.out) rfl ⟨cs, rfl, H2.out, below_setRow HB.out (Nat.le_refl _) _⟩

set_option maxHeartbeats 800000 in
set_option maxRecDepth 100000 in
theorem each_inv2 (A : Addr) (x : Nat → Int) (w : World)
    (hcl : ∀ (W : World) (i : Nat), i < 256 → Below w.heap.size w W → Calls Try.prog 45 #[.int .i64 i, .pointer (some A)] W fun e W' => e = .returned (.int .i64 (x i)) ∧ ∃ n, W' = W.drewN n) :
    Calls Try.prog 27 #[.func (.func 45) #[] #[.pointer (some A)]] w fun e w' => ∃ cs, e = .returned (.agg cs) ∧ IsP cs x ∧ Below w.heap.size w w' := by
  have HC := Lib.hid hcl; clear hcl
  obtain ⟨Z, hz, hZ⟩ := zero_poly
  have HZ := Lib.hid hZ; clear hZ
  have HS0 := Lib.hid hz
  go_enter Try.func27, Try.ntmps27
  go_wp2
  clear hz
  go_loopw [5] (fun i W => ∃ k : Nat, k ≤ 256 ∧ i = .int .i64 k ∧ Hid (W.rowIs (w.heap.size + 1) 23 256 (ints (partx x k))) ∧ Hid (W.heap[w.heap.size]? = some (.cells Z 23 (0, 0))) ∧ Hid (Below w.heap.size w W)) (fun i _ => 256 - (intOf i).toNat)
  case atStart =>
    have e : (w.alloc (.cells Z 23)).heap.size = w.heap.size + 1 := by simp
    have r := row_of (heap_alloc_last (w.alloc (.cells Z 23)) (.cells Z 23)) (partx_zero HZ.out x)
    rw [e] at r
    exact ⟨0, by omega, rfl, Lib.hid r, Lib.hid ((Below.heap_alloc _ _ _ (by omega)).trans (heap_alloc_last w _)), Lib.hid (((Below.refl _ _).alloc (Nat.le_refl _) _).alloc (by simp) _)⟩
  case round =>
    obtain ⟨k, hk, rfl, HR, HQ, HB⟩ := hrel
    by_cases hlt : k < 256
    · go_wp2_with fail
      refine (HC.out _ k hlt HB.out).mono ?_
      rintro e' w' ⟨rfl, n, rfl⟩
      have d := (rowIs_drewN HR.out n).frozen k
      have hc := (rowIs_drewN HR.out n).cell hlt
      go_wp2
      go_roundw
      case rel => exact ⟨k + 1, by omega, by go_num, Lib.hid (partx_succ (rowIs_drewN HR.out n)), Lib.hid ((Below.heap_setCell (wr.drewN n) _ _ _ (by show w.heap.size ≠ w.heap.size + 1; omega)).trans HQ.out), Lib.hid ((below_drewN HB.out n).setCell (by show w.heap.size ≤ w.heap.size + 1; omega) _)⟩
      case measure => simp [intOf]; omega
    · obtain rfl : k = 256 := by omega
      obtain ⟨cs, hcs, hP⟩ := of_row HR.out
      have hP' := partx_all hP
      clear hP
      have hi := poly_sized hP'
      have hzm : Z.size = cs.size := by rw [HZ.out.1, hP'.1]
      have H1 := Lib.hid hcs; have H2 := Lib.hid hP'; have H3 := Lib.hid hi; have H4 := Lib.hid hzm; clear hcs hP' hi hzm
      go_wp2_with (first | (refine wpList_load_row rfl 23 (.tmp 3) rfl (w.heap.size + 1) rfl 23 cs (0, 0) _ H1.out Try.underlying23 rfl H3.out ?_) | (refine wpList_store_row rfl 23 (.tmp 2) (.tmp 14) rfl w.heap.size cs rfl rfl 23 Z HQ.out H3.out H4.out H2.out.cells ?_))
      refine bodyPost_ret (v := .agg cs) (results_cell_row (p := 2) (ty := 23) (by kernel_rfl) _ _ w.heap.size 23 cs (0, 0) _ rfl (setRow_heap _ _ _ _ _ _ HQ.out) Try.underlying23 rfl H3.out) rfl ⟨cs, rfl, H2.out, below_setRow HB.out (Nat.le_refl _) _⟩

set_option maxHeartbeats 800000 in
set_option maxRecDepth 100000 in
theorem each_add1 (A A' : Addr) (x : Nat → Int) (w : World)
    (hcl : ∀ (W : World) (i : Nat), i < 256 → Below w.heap.size w W → Calls Try.prog 34 #[.int .i64 i, .pointer (some A), .pointer (some A')] W fun e W' => e = .returned (.int .i64 (x i)) ∧ ∃ n, W' = W.drewN n) :
    Calls Try.prog 27 #[.func (.func 34) #[] #[.pointer (some A), .pointer (some A')]] w fun e w' => ∃ cs, e = .returned (.agg cs) ∧ IsP cs x ∧ Below w.heap.size w w' := by
  have HC := Lib.hid hcl; clear hcl
  obtain ⟨Z, hz, hZ⟩ := zero_poly
  have HZ := Lib.hid hZ; clear hZ
  have HS0 := Lib.hid hz
  go_enter Try.func27, Try.ntmps27
  go_wp2
  clear hz
  go_loopw [5] (fun i W => ∃ k : Nat, k ≤ 256 ∧ i = .int .i64 k ∧ Hid (W.rowIs (w.heap.size + 1) 23 256 (ints (partx x k))) ∧ Hid (W.heap[w.heap.size]? = some (.cells Z 23 (0, 0))) ∧ Hid (Below w.heap.size w W)) (fun i _ => 256 - (intOf i).toNat)
  case atStart =>
    have e : (w.alloc (.cells Z 23)).heap.size = w.heap.size + 1 := by simp
    have r := row_of (heap_alloc_last (w.alloc (.cells Z 23)) (.cells Z 23)) (partx_zero HZ.out x)
    rw [e] at r
    exact ⟨0, by omega, rfl, Lib.hid r, Lib.hid ((Below.heap_alloc _ _ _ (by omega)).trans (heap_alloc_last w _)), Lib.hid (((Below.refl _ _).alloc (Nat.le_refl _) _).alloc (by simp) _)⟩
  case round =>
    obtain ⟨k, hk, rfl, HR, HQ, HB⟩ := hrel
    by_cases hlt : k < 256
    · go_wp2_with fail
      refine (HC.out _ k hlt HB.out).mono ?_
      rintro e' w' ⟨rfl, n, rfl⟩
      have d := (rowIs_drewN HR.out n).frozen k
      have hc := (rowIs_drewN HR.out n).cell hlt
      go_wp2
      go_roundw
      case rel => exact ⟨k + 1, by omega, by go_num, Lib.hid (partx_succ (rowIs_drewN HR.out n)), Lib.hid ((Below.heap_setCell (wr.drewN n) _ _ _ (by show w.heap.size ≠ w.heap.size + 1; omega)).trans HQ.out), Lib.hid ((below_drewN HB.out n).setCell (by show w.heap.size ≤ w.heap.size + 1; omega) _)⟩
      case measure => simp [intOf]; omega
    · obtain rfl : k = 256 := by omega
      obtain ⟨cs, hcs, hP⟩ := of_row HR.out
      have hP' := partx_all hP
      clear hP
      have hi := poly_sized hP'
      have hzm : Z.size = cs.size := by rw [HZ.out.1, hP'.1]
      have H1 := Lib.hid hcs; have H2 := Lib.hid hP'; have H3 := Lib.hid hi; have H4 := Lib.hid hzm; clear hcs hP' hi hzm
      go_wp2_with (first | (refine wpList_load_row rfl 23 (.tmp 3) rfl (w.heap.size + 1) rfl 23 cs (0, 0) _ H1.out Try.underlying23 rfl H3.out ?_) | (refine wpList_store_row rfl 23 (.tmp 2) (.tmp 14) rfl w.heap.size cs rfl rfl 23 Z HQ.out H3.out H4.out H2.out.cells ?_))
      refine bodyPost_ret (v := .agg cs) (results_cell_row (p := 2) (ty := 23) (by kernel_rfl) _ _ w.heap.size 23 cs (0, 0) _ rfl (setRow_heap _ _ _ _ _ _ HQ.out) Try.underlying23 rfl H3.out) rfl ⟨cs, rfl, H2.out, below_setRow HB.out (Nat.le_refl _) _⟩

set_option maxHeartbeats 800000 in
set_option maxRecDepth 100000 in
theorem each_sub1 (A A' : Addr) (x : Nat → Int) (w : World)
    (hcl : ∀ (W : World) (i : Nat), i < 256 → Below w.heap.size w W → Calls Try.prog 35 #[.int .i64 i, .pointer (some A), .pointer (some A')] W fun e W' => e = .returned (.int .i64 (x i)) ∧ ∃ n, W' = W.drewN n) :
    Calls Try.prog 27 #[.func (.func 35) #[] #[.pointer (some A), .pointer (some A')]] w fun e w' => ∃ cs, e = .returned (.agg cs) ∧ IsP cs x ∧ Below w.heap.size w w' := by
  have HC := Lib.hid hcl; clear hcl
  obtain ⟨Z, hz, hZ⟩ := zero_poly
  have HZ := Lib.hid hZ; clear hZ
  have HS0 := Lib.hid hz
  go_enter Try.func27, Try.ntmps27
  go_wp2
  clear hz
  go_loopw [5] (fun i W => ∃ k : Nat, k ≤ 256 ∧ i = .int .i64 k ∧ Hid (W.rowIs (w.heap.size + 1) 23 256 (ints (partx x k))) ∧ Hid (W.heap[w.heap.size]? = some (.cells Z 23 (0, 0))) ∧ Hid (Below w.heap.size w W)) (fun i _ => 256 - (intOf i).toNat)
  case atStart =>
    have e : (w.alloc (.cells Z 23)).heap.size = w.heap.size + 1 := by simp
    have r := row_of (heap_alloc_last (w.alloc (.cells Z 23)) (.cells Z 23)) (partx_zero HZ.out x)
    rw [e] at r
    exact ⟨0, by omega, rfl, Lib.hid r, Lib.hid ((Below.heap_alloc _ _ _ (by omega)).trans (heap_alloc_last w _)), Lib.hid (((Below.refl _ _).alloc (Nat.le_refl _) _).alloc (by simp) _)⟩
  case round =>
    obtain ⟨k, hk, rfl, HR, HQ, HB⟩ := hrel
    by_cases hlt : k < 256
    · go_wp2_with fail
      refine (HC.out _ k hlt HB.out).mono ?_
      rintro e' w' ⟨rfl, n, rfl⟩
      have d := (rowIs_drewN HR.out n).frozen k
      have hc := (rowIs_drewN HR.out n).cell hlt
      go_wp2
      go_roundw
      case rel => exact ⟨k + 1, by omega, by go_num, Lib.hid (partx_succ (rowIs_drewN HR.out n)), Lib.hid ((Below.heap_setCell (wr.drewN n) _ _ _ (by show w.heap.size ≠ w.heap.size + 1; omega)).trans HQ.out), Lib.hid ((below_drewN HB.out n).setCell (by show w.heap.size ≤ w.heap.size + 1; omega) _)⟩
      case measure => simp [intOf]; omega
    · obtain rfl : k = 256 := by omega
      obtain ⟨cs, hcs, hP⟩ := of_row HR.out
      have hP' := partx_all hP
      clear hP
      have hi := poly_sized hP'
      have hzm : Z.size = cs.size := by rw [HZ.out.1, hP'.1]
      have H1 := Lib.hid hcs; have H2 := Lib.hid hP'; have H3 := Lib.hid hi; have H4 := Lib.hid hzm; clear hcs hP' hi hzm
      go_wp2_with (first | (refine wpList_load_row rfl 23 (.tmp 3) rfl (w.heap.size + 1) rfl 23 cs (0, 0) _ H1.out Try.underlying23 rfl H3.out ?_) | (refine wpList_store_row rfl 23 (.tmp 2) (.tmp 14) rfl w.heap.size cs rfl rfl 23 Z HQ.out H3.out H4.out H2.out.cells ?_))
      refine bodyPost_ret (v := .agg cs) (results_cell_row (p := 2) (ty := 23) (by kernel_rfl) _ _ w.heap.size 23 cs (0, 0) _ rfl (setRow_heap _ _ _ _ _ _ HQ.out) Try.underlying23 rfl H3.out) rfl ⟨cs, rfl, H2.out, below_setRow HB.out (Nat.le_refl _) _⟩

set_option maxHeartbeats 800000 in
set_option maxRecDepth 100000 in
theorem each_tim1 (A A' : Addr) (x : Nat → Int) (w : World)
    (hcl : ∀ (W : World) (i : Nat), i < 256 → Below w.heap.size w W → Calls Try.prog 36 #[.int .i64 i, .pointer (some A), .pointer (some A')] W fun e W' => e = .returned (.int .i64 (x i)) ∧ ∃ n, W' = W.drewN n) :
    Calls Try.prog 27 #[.func (.func 36) #[] #[.pointer (some A), .pointer (some A')]] w fun e w' => ∃ cs, e = .returned (.agg cs) ∧ IsP cs x ∧ Below w.heap.size w w' := by
  have HC := Lib.hid hcl; clear hcl
  obtain ⟨Z, hz, hZ⟩ := zero_poly
  have HZ := Lib.hid hZ; clear hZ
  have HS0 := Lib.hid hz
  go_enter Try.func27, Try.ntmps27
  go_wp2
  clear hz
  go_loopw [5] (fun i W => ∃ k : Nat, k ≤ 256 ∧ i = .int .i64 k ∧ Hid (W.rowIs (w.heap.size + 1) 23 256 (ints (partx x k))) ∧ Hid (W.heap[w.heap.size]? = some (.cells Z 23 (0, 0))) ∧ Hid (Below w.heap.size w W)) (fun i _ => 256 - (intOf i).toNat)
  case atStart =>
    have e : (w.alloc (.cells Z 23)).heap.size = w.heap.size + 1 := by simp
    have r := row_of (heap_alloc_last (w.alloc (.cells Z 23)) (.cells Z 23)) (partx_zero HZ.out x)
    rw [e] at r
    exact ⟨0, by omega, rfl, Lib.hid r, Lib.hid ((Below.heap_alloc _ _ _ (by omega)).trans (heap_alloc_last w _)), Lib.hid (((Below.refl _ _).alloc (Nat.le_refl _) _).alloc (by simp) _)⟩
  case round =>
    obtain ⟨k, hk, rfl, HR, HQ, HB⟩ := hrel
    by_cases hlt : k < 256
    · go_wp2_with fail
      refine (HC.out _ k hlt HB.out).mono ?_
      rintro e' w' ⟨rfl, n, rfl⟩
      have d := (rowIs_drewN HR.out n).frozen k
      have hc := (rowIs_drewN HR.out n).cell hlt
      go_wp2
      go_roundw
      case rel => exact ⟨k + 1, by omega, by go_num, Lib.hid (partx_succ (rowIs_drewN HR.out n)), Lib.hid ((Below.heap_setCell (wr.drewN n) _ _ _ (by show w.heap.size ≠ w.heap.size + 1; omega)).trans HQ.out), Lib.hid ((below_drewN HB.out n).setCell (by show w.heap.size ≤ w.heap.size + 1; omega) _)⟩
      case measure => simp [intOf]; omega
    · obtain rfl : k = 256 := by omega
      obtain ⟨cs, hcs, hP⟩ := of_row HR.out
      have hP' := partx_all hP
      clear hP
      have hi := poly_sized hP'
      have hzm : Z.size = cs.size := by rw [HZ.out.1, hP'.1]
      have H1 := Lib.hid hcs; have H2 := Lib.hid hP'; have H3 := Lib.hid hi; have H4 := Lib.hid hzm; clear hcs hP' hi hzm
      go_wp2_with (first | (refine wpList_load_row rfl 23 (.tmp 3) rfl (w.heap.size + 1) rfl 23 cs (0, 0) _ H1.out Try.underlying23 rfl H3.out ?_) | (refine wpList_store_row rfl 23 (.tmp 2) (.tmp 14) rfl w.heap.size cs rfl rfl 23 Z HQ.out H3.out H4.out H2.out.cells ?_))
      refine bodyPost_ret (v := .agg cs) (results_cell_row (p := 2) (ty := 23) (by kernel_rfl) _ _ w.heap.size 23 cs (0, 0) _ rfl (setRow_heap _ _ _ _ _ _ HQ.out) Try.underlying23 rfl H3.out) rfl ⟨cs, rfl, H2.out, below_setRow HB.out (Nat.le_refl _) _⟩
end Go.Proofs.Ytaihlmedeebimaa.Lg
