/- Walks: polynomials changed number by number. Written by tools/mk_kpchange.py. -/
import Derived.Test.YtdkhiooiakdecaaDoorRKpWalkB
import Derived.Test.YtdkhiooiakdecaaDoorRSmMid
namespace Go.Proofs.YtdkhiooiakdecaaDoorR.Kp
set_option linter.all false
open Go.RowKit Iter Sm

theorem brought1_any (b d : Nat) (n : Int) (w : World) (hd : d ≤ 12) (hc : w.cell? ⟨b, 0, none⟩ = some (.int .i64 d)) :
    Calls Tryd.prog 45 #[.int .i64 n, .pointer (some ⟨b, 0, none⟩)] w fun e w' => e = .returned (.int .i64 (rd2 d n)) ∧ ∃ k, w' = w.drewN k := by
  go_enter Tryd.func45, Tryd.ntmps45
  go_wp2_with fail
  refine (lowest_any d n _ hd).mono ?_
  rintro e w' ⟨rfl, rfl⟩
  rw [rd2_is]
  go_wp2
  go_ret
  exact ⟨rfl, 0, rfl⟩
def mixp (φ : Int → Int) (p : Nat → Int) (k : Nat) : Nat → Int := fun i => if i < k then φ (p i) else p i
theorem mixp_zero (φ : Int → Int) (p : Nat → Int) : mixp φ p 0 = p := by funext i; unfold mixp; rw [if_neg (by omega)]
theorem mixp_at (φ : Int → Int) (p : Nat → Int) (k : Nat) : mixp φ p k k = p k := by unfold mixp; rw [if_neg (by omega)]
theorem mixp_succ {w : World} {b k : Nat} {t : TypeId} {φ : Int → Int} {p : Nat → Int} (h : w.rowIs b t 256 (ints (mixp φ p k))) : (w.setCell ⟨b, k, none⟩ (.int .i64 (φ (p k)))).rowIs b t 256 (ints (mixp φ p (k + 1))) :=
  row_is (row_set h k _) fun i _ => by
    unfold mixp
    by_cases e : i = k
    · subst e; rw [if_pos rfl, if_pos (by omega)]
    · rw [if_neg e]
      by_cases h : i < k
      · rw [if_pos h, if_pos (by omega)]
      · rw [if_neg h, if_neg (by omega)]
theorem mixp_all {cs : Array Value} {φ : Int → Int} {p : Nat → Int} (h : IsP cs (mixp φ p 256)) : IsP cs (fun i => φ (p i)) := h.congr fun i hi => by unfold mixp; rw [if_pos hi]

set_option maxHeartbeats 2000000 in
set_option maxRecDepth 100000 in
theorem changed_b (bc bd : Nat) (φ : Int → Int) (cs : Array Value) (p : Nat → Int) (w : World) (hP : IsP cs p) (hc : w.cell? ⟨bc, 0, none⟩ = some (.func (.func 45) #[] #[.pointer (some ⟨bd, 0, none⟩)]))
    (hcl : ∀ (W : World) (i : Nat), i < 256 → Below w.heap.size w W → Calls Tryd.prog 45 #[.int .i64 (p i), .pointer (some ⟨bd, 0, none⟩)] W fun e W' => e = .returned (.int .i64 (φ (p i))) ∧ ∃ n, W' = W.drewN n) :
    Calls Tryd.prog 57 #[.agg cs, .pointer (some ⟨bc, 0, none⟩)] w fun e w' => ∃ ds, e = .returned (.agg ds) ∧ IsP ds (fun i => φ (p i)) ∧ Below w.heap.size w w' := by
  have HC := Lib.hid hcl; have HP := Lib.hid hP; have HCC := Lib.hid hc
  have hcb := block_lt_of_cell hc
  clear hcl hP hc
  obtain ⟨Z, hz, hZ⟩ := zero_poly
  have HZ := Lib.hid hZ; clear hZ
  have e : (w.alloc (.cells cs 26)).heap.size = w.heap.size + 1 := by simp
  have g0 := heap_alloc_last w (.cells cs 26)
  have g0' := (Below.heap_alloc (w.alloc (.cells cs 26)) (.cells Z 26) w.heap.size (by omega)).trans g0
  have g1 := heap_alloc_last (w.alloc (.cells cs 26)) (.cells Z 26)
  rw [e] at g1
  have hB := ((Below.refl w.heap.size w).alloc (Nat.le_refl _) (.cells cs 26)).alloc (by simp) (.cells Z 26)
  have HG0 := Lib.hid g0'; have HG1 := Lib.hid g1; have HB := Lib.hid hB
  have hi := poly_sized HP.out
  have HI := Lib.hid hi
  clear g0 g0' g1 hB e hi
  go_enter Tryd.func57, Tryd.ntmps57
  go_wp2_with (refine wpList_load_row rfl 26 (.tmp 2) rfl w.heap.size rfl 26 cs (0, 0) _ HG0.out Tryd.underlying26 rfl HI.out ?_)
  clear hz
  go_loopw [7] (fun i W => ∃ k : Nat, k ≤ 256 ∧ i = .int .i64 k ∧ Hid (W.rowIs w.heap.size 26 256 (ints (mixp φ p k))) ∧ Hid (W.heap[w.heap.size + 1]? = some (.cells Z 26 (0, 0))) ∧ Hid (Below w.heap.size w W)) (fun i _ => 256 - (intOf i).toNat)
  case atStart => exact ⟨0, by omega, rfl, Lib.hid (by rw [mixp_zero]; exact row_of HG0.out HP.out), HG1, HB⟩
  case round =>
    obtain ⟨k, hk, rfl, HR, HQ, HB1⟩ := hrel
    by_cases hlt : k < 256
    · have hix := run_index_one (P := Tryd.prog) 26 3 256 _ cs .i64 k _ Tryd.underlying26 Tryd.underlying3 rfl (by kernel_rfl) hlt (HP.out.2 k hlt)
      have cc := (HB1.out.cell (p := ⟨bc, 0, none⟩) hcb).trans HCC.out
      go_wp2_with fail
      refine (HC.out _ k hlt HB1.out).mono ?_
      rintro e' w' ⟨rfl, n, rfl⟩
      have d := (rowIs_drewN HR.out n).frozen k
      have hc := (rowIs_drewN HR.out n).cell hlt
      clear hix cc
      go_wp2
      go_roundw
      case rel => exact ⟨k + 1, by omega, by go_num, Lib.hid (mixp_succ (rowIs_drewN HR.out n)), Lib.hid ((Below.heap_setCell (wr.drewN n) _ _ _ (by show w.heap.size + 1 ≠ w.heap.size; omega)).trans HQ.out), Lib.hid ((below_drewN HB1.out n).setCell (by show w.heap.size ≤ w.heap.size; omega) _)⟩
      case measure => simp [intOf]; omega
    · obtain rfl : k = 256 := by omega
      obtain ⟨ds, hcs, hP'⟩ := of_row HR.out
      have hP' := mixp_all hP'
      have hi := poly_sized hP'
      have hzm : Z.size = ds.size := by rw [HZ.out.1, hP'.1]
      have H1 := Lib.hid hcs; have H2 := Lib.hid hP'; have H3 := Lib.hid hi; have H4 := Lib.hid hzm; clear hcs hP' hi hzm
      go_wp2_with (first | (refine wpList_load_row rfl 26 (.tmp 2) rfl w.heap.size rfl 26 ds (0, 0) _ H1.out Tryd.underlying26 rfl H3.out ?_) | (refine wpList_store_row rfl 26 (.tmp 3) (.tmp 17) rfl (w.heap.size + 1) ds rfl rfl 26 Z HQ.out H3.out H4.out H2.out.cells ?_))
      refine bodyPost_ret (v := .agg ds) (results_cell_row (p := 3) (ty := 26) (by kernel_rfl) _ _ (w.heap.size + 1) 26 ds (0, 0) _ rfl (setRow_heap _ _ _ _ _ _ HQ.out) Tryd.underlying26 rfl H3.out) rfl ⟨ds, rfl, H2.out, below_setRow HB1.out (by omega) _⟩
theorem changing_b (bd : Nat) (w : World) :
    Calls Tryd.prog 44 #[.func (.func 45) #[] #[.pointer (some ⟨bd, 0, none⟩)]] w fun e w' => e = .returned (.func (.func 57) #[] #[.pointer (some ⟨w.heap.size, 0, none⟩)]) ∧ w' = w.alloc (.cells #[.func (.func 45) #[] #[.pointer (some ⟨bd, 0, none⟩)]] 47) := by
  go_enter Tryd.func44, Tryd.ntmps44
  go_wp2
  go_ret
  exact ⟨rfl, rfl⟩
end Go.Proofs.YtdkhiooiakdecaaDoorR.Kp
