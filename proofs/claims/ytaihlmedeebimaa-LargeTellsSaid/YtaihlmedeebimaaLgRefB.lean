/- Walks of the document's own: Mod, Add, Sub. Written by tools/mk_smrefb.py, then by hand. -/
import Derived.Test.YtaihlmedeebimaaLgRefA
namespace Go.Proofs.Ytaihlmedeebimaa.Lg
open Go.RowKit
set_option linter.all false

theorem mul_nv (x y : F) : nv x * nv y % 8380417 = nv (x * y) := by rw [← nv_red, red_mul_nv]
theorem mul_nv_t (x y : F) : (nv x * nv y).tmod 8380417 = nv (x * y) := by rw [Int.tmod_eq_emod_of_nonneg (mul_bd x y).1, mul_nv]
def partg (x : Nat → F) (p : Nat → Int) (k : Nat) : Nat → Int := fun i => if i < k then nv (x i) else p i
theorem partg_succ {w : World} {b k : Nat} {t : TypeId} {x : Nat → F} {p : Nat → Int} {v : F} (hv : x k = v) (h : w.rowIs b t 256 (ints (partg x p k))) : (w.setCell ⟨b, k, none⟩ (.int .i64 (nv v))).rowIs b t 256 (ints (partg x p (k + 1))) :=
  row_is (row_set h k _) fun i _ => by
    unfold partg
    by_cases e : i = k
    · subst e; rw [if_pos rfl, if_pos (by omega), hv]
    · rw [if_neg e]
      by_cases h : i < k
      · rw [if_pos h, if_pos (by omega)]
      · rw [if_neg h, if_neg (by omega)]
theorem partg_zero {cs : Array Value} {p : Nat → Int} (h : IsP cs p) (x : Nat → F) : IsP cs (partg x p 0) := h.congr fun i _ => by unfold partg; rw [if_neg (by omega)]
theorem partg_all {cs : Array Value} {x : Nat → F} {p : Nat → Int} (h : IsP cs (partg x p 256)) : IsP cs (up x) := h.congr fun i hi => by unfold partg up; rw [if_pos hi]
theorem partg_at (x : Nat → F) (p : Nat → Int) (k : Nat) : partg x p k k = p k := by unfold partg; rw [if_neg (by omega)]

set_option maxHeartbeats 800000 in
set_option maxRecDepth 100000 in
theorem rmod_any (cs : Array Value) (p : Nat → Int) (w : World) (hP : IsP cs p) (hF : Fits p) :
    Calls Try.prog 11 #[.agg cs] w fun e w' => ∃ ds, e = .returned (.agg ds) ∧ IsP ds (up (redp p)) ∧ Below w.heap.size w w' := by
  have HP := Lib.hid hP; have HF := Lib.hid hF; clear hP hF
  obtain ⟨Z, hz, hZ⟩ := zero_poly
  have HZ := Lib.hid hZ; clear hZ
  have e : (w.alloc (.cells cs 23)).heap.size = w.heap.size + 1 := by simp
  have HRA := Lib.hid ((row_of (heap_alloc_last w (.cells cs 23)) (partg_zero HP.out (redp p))).alloc (.cells Z 23))
  have hr := heap_alloc_last (w.alloc (.cells cs 23)) (.cells Z 23)
  rw [e] at hr
  have HRZ := Lib.hid hr
  have HB := Lib.hid (((Below.refl _ _).alloc (Nat.le_refl w.heap.size) (.cells cs 23)).alloc (by simp) (.cells Z 23))
  clear hr e
  go_enter Try.func11, Try.ntmps11
  go_wp2
  clear hz
  go_loopw [3] (fun i W => ∃ k : Nat, k ≤ 256 ∧ i = .int .i64 k ∧ Hid (W.rowIs w.heap.size 23 256 (ints (partg (redp p) p k))) ∧ Hid (W.heap[w.heap.size + 1]? = some (.cells Z 23 (0, 0))) ∧ Hid (Below w.heap.size w W)) (fun i _ => 256 - (intOf i).toNat)
  case atStart => exact ⟨0, by omega, rfl, HRA, HRZ, HB⟩
  case round =>
    clear HRA HRZ HB
    obtain ⟨k, hk, rfl, HR, HQ, HB⟩ := hrel
    by_cases hlt : k < 256
    · obtain ⟨v1, v2⟩ := HF.out k hlt
      have d := HR.out.frozen k
      have hc := HR.out.cell hlt
      unfold ints at hc
      rw [partg_at] at hc
      go_wp2_with fail
      refine (rmod_is _ (redp p k) _ rfl v1 v2).mono ?_
      rintro e' w' ⟨rfl, rfl⟩
      go_wp2
      go_roundw
      case rel => exact ⟨k + 1, by omega, by go_num, Lib.hid (partg_succ rfl HR.out), Lib.hid ((Below.heap_setCell wr _ _ _ (by show w.heap.size + 1 ≠ w.heap.size; omega)).trans HQ.out), Lib.hid (HB.out.setCell (by show w.heap.size ≤ w.heap.size; omega) _)⟩
      case measure => simp [intOf]; omega
    · obtain rfl : k = 256 := by omega
      obtain ⟨ds, hds, hD⟩ := of_row HR.out
      have H1 := Lib.hid hds; have H2 := Lib.hid (partg_all hD); have H3 := Lib.hid (poly_sized hD); have H4 := Lib.hid (show Z.size = ds.size by rw [HZ.out.1, hD.1]); clear hds hD
      go_wp2_with (first | (refine wpList_load_row rfl 23 (.tmp 1) rfl w.heap.size rfl 23 ds (0, 0) _ H1.out Try.underlying23 rfl H3.out ?_) | (refine wpList_store_row rfl 23 (.tmp 2) (.tmp 14) rfl (w.heap.size + 1) ds rfl rfl 23 Z HQ.out H3.out H4.out H2.out.cells ?_))
      refine bodyPost_ret (v := .agg ds) (results_cell_row (p := 2) (ty := 23) (by kernel_rfl) _ _ (w.heap.size + 1) 23 ds (0, 0) _ rfl (setRow_heap _ _ _ _ _ _ HQ.out) Try.underlying23 rfl H3.out) rfl ⟨ds, rfl, H2.out, below_setRow HB.out (by omega) _⟩

set_option maxHeartbeats 2000000 in
set_option maxRecDepth 100000 in
theorem radd_any (cs es : Array Value) (p q : Nat → Int) (w : World) (hP : IsP cs p) (hQ : IsP es q) (hFp : Fits p) (hFq : Fits q) :
    Calls Try.prog 17 #[.agg cs, .agg es] w fun e w' => ∃ ds, e = .returned (.agg ds) ∧ IsP ds (up (pl (redp p) (redp q))) ∧ Below w.heap.size w w' := by
  have HP := Lib.hid hP; have HQ := Lib.hid hQ; have HFp := Lib.hid hFp; have HFq := Lib.hid hFq; clear hP hQ hFp hFq
  obtain ⟨Z, hz, hZ⟩ := zero_poly
  have HZ := Lib.hid hZ; clear hZ
  have e1 : (w.alloc (.cells cs 23)).heap.size = w.heap.size + 1 := by simp
  have e2 : ((w.alloc (.cells cs 23)).alloc (.cells es 23)).heap.size = w.heap.size + 2 := by simp
  have HRA := Lib.hid (((row_of (heap_alloc_last w (.cells cs 23)) (partg_zero HP.out (pl (redp p) (redp q)))).alloc (.cells es 23)).alloc (.cells Z 23))
  have r2 := (row_of (heap_alloc_last (w.alloc (.cells cs 23)) (.cells es 23)) HQ.out).alloc (.cells Z 23)
  rw [e1] at r2
  have HRB := Lib.hid r2
  have r3 := heap_alloc_last ((w.alloc (.cells cs 23)).alloc (.cells es 23)) (.cells Z 23)
  rw [e2] at r3
  have HRZ := Lib.hid r3
  have HB := Lib.hid ((((Below.refl _ _).alloc (Nat.le_refl w.heap.size) (.cells cs 23)).alloc (by simp) (.cells es 23)).alloc (by simp <;> omega) (.cells Z 23))
  clear r2 r3 e1 e2
  go_enter Try.func17, Try.ntmps17
  go_wp2
  clear hz
  go_loopw [5] (fun i W => ∃ k : Nat, k ≤ 256 ∧ i = .int .i64 k ∧ Hid (W.rowIs w.heap.size 23 256 (ints (partg (pl (redp p) (redp q)) p k))) ∧ Hid (W.rowIs (w.heap.size + 1) 23 256 (ints q)) ∧ Hid (W.heap[w.heap.size + 2]? = some (.cells Z 23 (0, 0))) ∧ Hid (Below w.heap.size w W)) (fun i _ => 256 - (intOf i).toNat)
  case atStart => exact ⟨0, by omega, rfl, HRA, HRB, HRZ, HB⟩
  case round =>
    clear HRA HRZ HB HRB
    obtain ⟨k, hk, rfl, HR, HRB, HZ2, HB⟩ := hrel
    by_cases hlt : k < 256
    · obtain ⟨v1, v2⟩ := HFp.out k hlt
      obtain ⟨v3, v4⟩ := HFq.out k hlt
      have d := HR.out.frozen k
      have hc := HR.out.cell hlt
      have hc' := HRB.out.cell hlt
      unfold ints at hc hc'
      rw [partg_at] at hc
      have a1 := nv_lo (redp p k); have a2 := nv_hi (redp p k); have a3 := nv_lo (redp q k); have a4 := nv_hi (redp q k)
      have hdk : decide ((k : Int) < 256) = true := decide_eq_true (by omega)
      have q1 : IntKind.i64.wrap (nv (redp p k) + nv (redp q k)) = nv (redp p k) + nv (redp q k) := IntWalk.i64_in _ (by omega)
      have i0 : (0 : Int) ≤ (k : Int) := by omega
      have i1 : (k : Int) < 256 := by omega
      go_wp2
      refine wp_region_still_tail 12 (by kernel_rfl) (by kernel_rfl) ?_
      simp only [List.take_succ_cons, List.take_zero, List.drop_succ_cons, List.drop_zero]
      repeat still_step
      still_call (rmod_same _ (redp p k) _ rfl v1 v2)
      repeat still_step
      still_call (rmod_same _ (redp q k) _ rfl v3 v4)
      repeat still_step
      still_call (rmod_same _ (redp p k + redp q k) _ (red_add_nv _ _) (by omega) (by omega))
      repeat still_step
      refine wpStill_nil ?_
      change wpList _ _ _ _ _ wr.drew
      go_wp2
      go_roundw
      case rel => exact ⟨k + 1, by omega, by go_num, Lib.hid (partg_succ rfl HR.out).drew, Lib.hid (HRB.out.setOther (a := ⟨w.heap.size, k, none⟩) (show w.heap.size + 1 ≠ w.heap.size by omega) _).drew, Lib.hid ((Below.heap_setCell wr ⟨w.heap.size, k, none⟩ _ _ (by show w.heap.size + 2 ≠ w.heap.size; omega)).trans HZ2.out), Lib.hid (HB.out.setCell (p := ⟨w.heap.size, k, none⟩) (by show w.heap.size ≤ w.heap.size; omega) _).drew⟩
      case measure => simp [intOf]; omega
    · obtain rfl : k = 256 := by omega
      obtain ⟨ds, hds, hD⟩ := of_row HR.out
      have H1 := Lib.hid hds; have H2 := Lib.hid (partg_all hD); have H3 := Lib.hid (poly_sized hD); have H4 := Lib.hid (show Z.size = ds.size by rw [HZ.out.1, hD.1]); clear hds hD
      go_wp2_with (first | (refine wpList_load_row rfl 23 (.tmp 2) rfl w.heap.size rfl 23 ds (0, 0) _ H1.out Try.underlying23 rfl H3.out ?_) | (refine wpList_store_row rfl 23 (.tmp 4) (.tmp 22) rfl (w.heap.size + 2) ds rfl rfl 23 Z HZ2.out H3.out H4.out H2.out.cells ?_))
      refine bodyPost_ret (v := .agg ds) (results_cell_row (p := 4) (ty := 23) (by kernel_rfl) _ _ (w.heap.size + 2) 23 ds (0, 0) _ rfl (setRow_heap _ _ _ _ _ _ HZ2.out) Try.underlying23 rfl H3.out) rfl ⟨ds, rfl, H2.out, below_setRow HB.out (by omega) _⟩

set_option maxHeartbeats 2000000 in
set_option maxRecDepth 100000 in
theorem rsub_any (cs es : Array Value) (p q : Nat → Int) (w : World) (hP : IsP cs p) (hQ : IsP es q) (hFp : Fits p) (hFq : Fits q) :
    Calls Try.prog 19 #[.agg cs, .agg es] w fun e w' => ∃ ds, e = .returned (.agg ds) ∧ IsP ds (up (mi (redp p) (redp q))) ∧ Below w.heap.size w w' := by
  have HP := Lib.hid hP; have HQ := Lib.hid hQ; have HFp := Lib.hid hFp; have HFq := Lib.hid hFq; clear hP hQ hFp hFq
  obtain ⟨Z, hz, hZ⟩ := zero_poly
  have HZ := Lib.hid hZ; clear hZ
  have e1 : (w.alloc (.cells cs 23)).heap.size = w.heap.size + 1 := by simp
  have e2 : ((w.alloc (.cells cs 23)).alloc (.cells es 23)).heap.size = w.heap.size + 2 := by simp
  have HRA := Lib.hid (((row_of (heap_alloc_last w (.cells cs 23)) (partg_zero HP.out (mi (redp p) (redp q)))).alloc (.cells es 23)).alloc (.cells Z 23))
  have r2 := (row_of (heap_alloc_last (w.alloc (.cells cs 23)) (.cells es 23)) HQ.out).alloc (.cells Z 23)
  rw [e1] at r2
  have HRB := Lib.hid r2
  have r3 := heap_alloc_last ((w.alloc (.cells cs 23)).alloc (.cells es 23)) (.cells Z 23)
  rw [e2] at r3
  have HRZ := Lib.hid r3
  have HB := Lib.hid ((((Below.refl _ _).alloc (Nat.le_refl w.heap.size) (.cells cs 23)).alloc (by simp) (.cells es 23)).alloc (by simp <;> omega) (.cells Z 23))
  clear r2 r3 e1 e2
  go_enter Try.func19, Try.ntmps19
  go_wp2
  clear hz
  go_loopw [5] (fun i W => ∃ k : Nat, k ≤ 256 ∧ i = .int .i64 k ∧ Hid (W.rowIs w.heap.size 23 256 (ints (partg (mi (redp p) (redp q)) p k))) ∧ Hid (W.rowIs (w.heap.size + 1) 23 256 (ints q)) ∧ Hid (W.heap[w.heap.size + 2]? = some (.cells Z 23 (0, 0))) ∧ Hid (Below w.heap.size w W)) (fun i _ => 256 - (intOf i).toNat)
  case atStart => exact ⟨0, by omega, rfl, HRA, HRB, HRZ, HB⟩
  case round =>
    clear HRA HRZ HB HRB
    obtain ⟨k, hk, rfl, HR, HRB, HZ2, HB⟩ := hrel
    by_cases hlt : k < 256
    · obtain ⟨v1, v2⟩ := HFp.out k hlt
      obtain ⟨v3, v4⟩ := HFq.out k hlt
      have d := HR.out.frozen k
      have hc := HR.out.cell hlt
      have hc' := HRB.out.cell hlt
      unfold ints at hc hc'
      rw [partg_at] at hc
      have a1 := nv_lo (redp p k); have a2 := nv_hi (redp p k); have a3 := nv_lo (redp q k); have a4 := nv_hi (redp q k)
      have hdk : decide ((k : Int) < 256) = true := decide_eq_true (by omega)
      have q1 : IntKind.i64.wrap (nv (redp p k) - nv (redp q k)) = nv (redp p k) - nv (redp q k) := IntWalk.i64_in _ (by omega)
      have i0 : (0 : Int) ≤ (k : Int) := by omega
      have i1 : (k : Int) < 256 := by omega
      go_wp2
      refine wp_region_still_tail 12 (by kernel_rfl) (by kernel_rfl) ?_
      simp only [List.take_succ_cons, List.take_zero, List.drop_succ_cons, List.drop_zero]
      repeat still_step
      still_call (rmod_same _ (redp p k) _ rfl v1 v2)
      repeat still_step
      still_call (rmod_same _ (redp q k) _ rfl v3 v4)
      repeat still_step
      still_call (rmod_same _ (redp p k - redp q k) _ (red_sub_nv _ _) (by omega) (by omega))
      repeat still_step
      refine wpStill_nil ?_
      change wpList _ _ _ _ _ wr.drew
      go_wp2
      go_roundw
      case rel => exact ⟨k + 1, by omega, by go_num, Lib.hid (partg_succ rfl HR.out).drew, Lib.hid (HRB.out.setOther (a := ⟨w.heap.size, k, none⟩) (show w.heap.size + 1 ≠ w.heap.size by omega) _).drew, Lib.hid ((Below.heap_setCell wr ⟨w.heap.size, k, none⟩ _ _ (by show w.heap.size + 2 ≠ w.heap.size; omega)).trans HZ2.out), Lib.hid (HB.out.setCell (p := ⟨w.heap.size, k, none⟩) (by show w.heap.size ≤ w.heap.size; omega) _).drew⟩
      case measure => simp [intOf]; omega
    · obtain rfl : k = 256 := by omega
      obtain ⟨ds, hds, hD⟩ := of_row HR.out
      have H1 := Lib.hid hds; have H2 := Lib.hid (partg_all hD); have H3 := Lib.hid (poly_sized hD); have H4 := Lib.hid (show Z.size = ds.size by rw [HZ.out.1, hD.1]); clear hds hD
      go_wp2_with (first | (refine wpList_load_row rfl 23 (.tmp 2) rfl w.heap.size rfl 23 ds (0, 0) _ H1.out Try.underlying23 rfl H3.out ?_) | (refine wpList_store_row rfl 23 (.tmp 4) (.tmp 22) rfl (w.heap.size + 2) ds rfl rfl 23 Z HZ2.out H3.out H4.out H2.out.cells ?_))
      refine bodyPost_ret (v := .agg ds) (results_cell_row (p := 4) (ty := 23) (by kernel_rfl) _ _ (w.heap.size + 2) 23 ds (0, 0) _ rfl (setRow_heap _ _ _ _ _ _ HZ2.out) Try.underlying23 rfl H3.out) rfl ⟨ds, rfl, H2.out, below_setRow HB.out (by omega) _⟩

end Go.Proofs.Ytaihlmedeebimaa.Lg
