/- Walks: Mod, Centred, Add, Sub, Times. Written by tools/mk_lgtop.py. -/
import Derived.Test.YtaihlmedeebimaaLgWalkC
namespace Go.Proofs.Ytaihlmedeebimaa.Lg
open Go.RowKit
set_option linter.all false

set_option maxHeartbeats 800000 in
set_option maxRecDepth 100000 in
theorem mod_any (cs : Array Value) (p : Nat → Int) (w : World) (hP : IsP cs p) (hF : Fits p) :
    Calls Try.prog 10 #[.agg cs] w fun e w' => ∃ ds, e = .returned (.agg ds) ∧ IsP ds (up (redp p)) ∧ Below w.heap.size w w' := by
  have hmf : ∀ (fn : Fn) (first cap : Array Value) (w : World), (Instr.makeFunc fn first cap).run Try.prog w = .ok (.func fn first cap) w := fun _ _ _ _ => rfl
  have HP := Lib.hid hP; have HF := Lib.hid hF; clear hP hF
  obtain ⟨Z, hz, hZ⟩ := zero_poly
  have HZ := Lib.hid hZ; clear hZ
  have HR := Lib.hid (row_of (heap_alloc_last w (.cells cs 23)) HP.out)
  have es : (w.alloc (.cells cs 23)).heap.size = w.heap.size + 1 := by simp
  have ES := Lib.hid es; clear es
  go_enter Try.func10, Try.ntmps10
  go_wp2_with fail
  refine (each_mod1 ⟨w.heap.size, 0, none⟩ (up (redp p)) _ (fun W i hi hB => mod1_any w.heap.size p i W hi (below_at hB (HR.out.alloc _) (by simp; omega)) (HF.out i hi).1 (HF.out i hi).2)).mono ?_
  rintro e w1 ⟨ds, rfl, hD, hB⟩
  have hq : w1.heap[w.heap.size + 1]? = some (.cells Z 23 (0, 0)) := by
    have h2 := heap_alloc_last (w.alloc (.cells cs 23)) (.cells Z 23)
    rw [ES.out] at h2
    exact (hB.block _ (by simp)).trans h2
  have hb : Below w.heap.size w w1 := (((Below.refl _ _).alloc (Nat.le_refl _) _).alloc (by simp) _).trans (hB.mono (by simp; omega))
  have hi := poly_sized hD
  have hzm : Z.size = ds.size := by rw [HZ.out.1, hD.1]
  have HD := Lib.hid hD; have HB := Lib.hid hb; have HQ := Lib.hid hq; have HI := Lib.hid hi; have HM := Lib.hid hzm; clear hD hB hb hq hi hzm
  go_wp2_with (refine wpList_store_row rfl 23 (.tmp 2) (.tmp 4) rfl (w.heap.size + 1) ds rfl rfl 23 Z HQ.out HI.out HM.out HD.out.cells ?_)
  refine bodyPost_ret (v := .agg ds) (results_cell_row (p := 2) (ty := 23) (by kernel_rfl) _ _ (w.heap.size + 1) 23 ds (0, 0) _ rfl (setRow_heap _ _ _ _ _ _ HQ.out) Try.underlying23 rfl HI.out) rfl ⟨ds, rfl, HD.out, below_setRow HB.out (by omega) _⟩

set_option maxHeartbeats 800000 in
set_option maxRecDepth 100000 in
theorem cen_any (cs : Array Value) (p : Nat → Int) (w : World) (hP : IsP cs p) (hF : Fits p) :
    Calls Try.prog 12 #[.agg cs] w fun e w' => ∃ ds, e = .returned (.agg ds) ∧ IsP ds (fun i => cen (redp p i)) ∧ Below w.heap.size w w' := by
  have hmf : ∀ (fn : Fn) (first cap : Array Value) (w : World), (Instr.makeFunc fn first cap).run Try.prog w = .ok (.func fn first cap) w := fun _ _ _ _ => rfl
  have HP := Lib.hid hP; have HF := Lib.hid hF; clear hP hF
  obtain ⟨Z, hz, hZ⟩ := zero_poly
  have HZ := Lib.hid hZ; clear hZ
  have HR := Lib.hid (row_of (heap_alloc_last w (.cells cs 23)) HP.out)
  have es : (w.alloc (.cells cs 23)).heap.size = w.heap.size + 1 := by simp
  have ES := Lib.hid es; clear es
  go_enter Try.func12, Try.ntmps12
  go_wp2_with fail
  refine (each_cen1 ⟨w.heap.size, 0, none⟩ (fun i => cen (redp p i)) _ (fun W i hi hB => cen1_any w.heap.size p i W hi (below_at hB (HR.out.alloc _) (by simp; omega)) (HF.out i hi).1 (HF.out i hi).2)).mono ?_
  rintro e w1 ⟨ds, rfl, hD, hB⟩
  have hq : w1.heap[w.heap.size + 1]? = some (.cells Z 23 (0, 0)) := by
    have h2 := heap_alloc_last (w.alloc (.cells cs 23)) (.cells Z 23)
    rw [ES.out] at h2
    exact (hB.block _ (by simp)).trans h2
  have hb : Below w.heap.size w w1 := (((Below.refl _ _).alloc (Nat.le_refl _) _).alloc (by simp) _).trans (hB.mono (by simp; omega))
  have hi := poly_sized hD
  have hzm : Z.size = ds.size := by rw [HZ.out.1, hD.1]
  have HD := Lib.hid hD; have HB := Lib.hid hb; have HQ := Lib.hid hq; have HI := Lib.hid hi; have HM := Lib.hid hzm; clear hD hB hb hq hi hzm
  go_wp2_with (refine wpList_store_row rfl 23 (.tmp 2) (.tmp 4) rfl (w.heap.size + 1) ds rfl rfl 23 Z HQ.out HI.out HM.out HD.out.cells ?_)
  refine bodyPost_ret (v := .agg ds) (results_cell_row (p := 2) (ty := 23) (by kernel_rfl) _ _ (w.heap.size + 1) 23 ds (0, 0) _ rfl (setRow_heap _ _ _ _ _ _ HQ.out) Try.underlying23 rfl HI.out) rfl ⟨ds, rfl, HD.out, below_setRow HB.out (by omega) _⟩

set_option maxHeartbeats 800000 in
set_option maxRecDepth 100000 in
theorem add_any (cs es : Array Value) (p q : Nat → Int) (w : World) (hP : IsP cs p) (hQ : IsP es q) (hFp : Fits p) (hFq : Fits q) :
    Calls Try.prog 16 #[.agg cs, .agg es] w fun e w' => ∃ ds, e = .returned (.agg ds) ∧ IsP ds (up (pl (redp p) (redp q))) ∧ Below w.heap.size w w' := by
  have hmf : ∀ (fn : Fn) (first cap : Array Value) (w : World), (Instr.makeFunc fn first cap).run Try.prog w = .ok (.func fn first cap) w := fun _ _ _ _ => rfl
  have HP := Lib.hid hP; have HQ := Lib.hid hQ; have HFp := Lib.hid hFp; have HFq := Lib.hid hFq; clear hP hQ hFp hFq
  obtain ⟨Z, hz, hZ⟩ := zero_poly
  have HZ := Lib.hid hZ; clear hZ
  have e1 : (w.alloc (.cells cs 23)).heap.size = w.heap.size + 1 := by simp
  have e2 : ((w.alloc (.cells cs 23)).alloc (.cells es 23)).heap.size = w.heap.size + 2 := by simp
  have HA := Lib.hid (((row_of (heap_alloc_last w (.cells cs 23)) HP.out).alloc (.cells es 23)).alloc (.cells Z 23))
  have r2 := (row_of (heap_alloc_last (w.alloc (.cells cs 23)) (.cells es 23)) HQ.out).alloc (.cells Z 23)
  rw [e1] at r2
  have HBR := Lib.hid r2
  have r3 := heap_alloc_last ((w.alloc (.cells cs 23)).alloc (.cells es 23)) (.cells Z 23)
  rw [e2] at r3
  have HZR := Lib.hid r3
  have HBW := Lib.hid ((((Below.refl _ _).alloc (Nat.le_refl w.heap.size) (.cells cs 23)).alloc (by simp) (.cells es 23)).alloc (by simp <;> omega) (.cells Z 23))
  have E2 := Lib.hid e2; have E1 := Lib.hid e1
  clear r2 r3 e1 e2
  go_enter Try.func16, Try.ntmps16
  go_wp2_with fail
  first | rw [E1.out] | skip
  refine (each_add1 ⟨w.heap.size, 0, none⟩ ⟨w.heap.size + 1, 0, none⟩ (up (pl (redp p) (redp q))) _ (fun W i hi hB => add1_any w.heap.size (w.heap.size + 1) p q i W hi (below_at hB HA.out HA.out.lt) (below_at hB HBR.out HBR.out.lt) (HFp.out i hi) (HFq.out i hi))).mono ?_
  rintro e w1 ⟨ds, rfl, hD, hB⟩
  have hq : w1.heap[w.heap.size + 2]? = some (.cells Z 23 (0, 0)) := (hB.block _ (by simp)).trans HZR.out
  have hb : Below w.heap.size w w1 := HBW.out.trans (hB.mono HBW.out.size)
  have hi := poly_sized hD
  have hzm : Z.size = ds.size := by rw [HZ.out.1, hD.1]
  have HD := Lib.hid hD; have HB := Lib.hid hb; have HQ2 := Lib.hid hq; have HI := Lib.hid hi; have HM := Lib.hid hzm; clear hD hB hb hq hi hzm
  go_wp2_with (refine wpList_store_row rfl 23 (.tmp 4) (.tmp 6) rfl (w.heap.size + 2) ds rfl rfl 23 Z HQ2.out HI.out HM.out HD.out.cells ?_)
  refine bodyPost_ret (v := .agg ds) (results_cell_row (p := 4) (ty := 23) (by kernel_rfl) _ _ (w.heap.size + 2) 23 ds (0, 0) _ rfl (setRow_heap _ _ _ _ _ _ HQ2.out) Try.underlying23 rfl HI.out) rfl ⟨ds, rfl, HD.out, below_setRow HB.out (by omega) _⟩

set_option maxHeartbeats 800000 in
set_option maxRecDepth 100000 in
theorem sub_any (cs es : Array Value) (p q : Nat → Int) (w : World) (hP : IsP cs p) (hQ : IsP es q) (hFp : Fits p) (hFq : Fits q) :
    Calls Try.prog 18 #[.agg cs, .agg es] w fun e w' => ∃ ds, e = .returned (.agg ds) ∧ IsP ds (up (mi (redp p) (redp q))) ∧ Below w.heap.size w w' := by
  have hmf : ∀ (fn : Fn) (first cap : Array Value) (w : World), (Instr.makeFunc fn first cap).run Try.prog w = .ok (.func fn first cap) w := fun _ _ _ _ => rfl
  have HP := Lib.hid hP; have HQ := Lib.hid hQ; have HFp := Lib.hid hFp; have HFq := Lib.hid hFq; clear hP hQ hFp hFq
  obtain ⟨Z, hz, hZ⟩ := zero_poly
  have HZ := Lib.hid hZ; clear hZ
  have e1 : (w.alloc (.cells cs 23)).heap.size = w.heap.size + 1 := by simp
  have e2 : ((w.alloc (.cells cs 23)).alloc (.cells es 23)).heap.size = w.heap.size + 2 := by simp
  have HA := Lib.hid (((row_of (heap_alloc_last w (.cells cs 23)) HP.out).alloc (.cells es 23)).alloc (.cells Z 23))
  have r2 := (row_of (heap_alloc_last (w.alloc (.cells cs 23)) (.cells es 23)) HQ.out).alloc (.cells Z 23)
  rw [e1] at r2
  have HBR := Lib.hid r2
  have r3 := heap_alloc_last ((w.alloc (.cells cs 23)).alloc (.cells es 23)) (.cells Z 23)
  rw [e2] at r3
  have HZR := Lib.hid r3
  have HBW := Lib.hid ((((Below.refl _ _).alloc (Nat.le_refl w.heap.size) (.cells cs 23)).alloc (by simp) (.cells es 23)).alloc (by simp <;> omega) (.cells Z 23))
  have E2 := Lib.hid e2; have E1 := Lib.hid e1
  clear r2 r3 e1 e2
  go_enter Try.func18, Try.ntmps18
  go_wp2_with fail
  first | rw [E1.out] | skip
  refine (each_sub1 ⟨w.heap.size, 0, none⟩ ⟨w.heap.size + 1, 0, none⟩ (up (mi (redp p) (redp q))) _ (fun W i hi hB => sub1_any w.heap.size (w.heap.size + 1) p q i W hi (below_at hB HA.out HA.out.lt) (below_at hB HBR.out HBR.out.lt) (HFp.out i hi) (HFq.out i hi))).mono ?_
  rintro e w1 ⟨ds, rfl, hD, hB⟩
  have hq : w1.heap[w.heap.size + 2]? = some (.cells Z 23 (0, 0)) := (hB.block _ (by simp)).trans HZR.out
  have hb : Below w.heap.size w w1 := HBW.out.trans (hB.mono HBW.out.size)
  have hi := poly_sized hD
  have hzm : Z.size = ds.size := by rw [HZ.out.1, hD.1]
  have HD := Lib.hid hD; have HB := Lib.hid hb; have HQ2 := Lib.hid hq; have HI := Lib.hid hi; have HM := Lib.hid hzm; clear hD hB hb hq hi hzm
  go_wp2_with (refine wpList_store_row rfl 23 (.tmp 4) (.tmp 6) rfl (w.heap.size + 2) ds rfl rfl 23 Z HQ2.out HI.out HM.out HD.out.cells ?_)
  refine bodyPost_ret (v := .agg ds) (results_cell_row (p := 4) (ty := 23) (by kernel_rfl) _ _ (w.heap.size + 2) 23 ds (0, 0) _ rfl (setRow_heap _ _ _ _ _ _ HQ2.out) Try.underlying23 rfl HI.out) rfl ⟨ds, rfl, HD.out, below_setRow HB.out (by omega) _⟩

set_option maxHeartbeats 800000 in
set_option maxRecDepth 100000 in
theorem tim_any (cs es : Array Value) (p q : Nat → Int) (w : World) (hP : IsP cs p) (hQ : IsP es q) (hFp : Fits p) (hFq : Fits q) :
    Calls Try.prog 20 #[.agg cs, .agg es] w fun e w' => ∃ ds, e = .returned (.agg ds) ∧ IsP ds (up (tim (redp p) (redp q))) ∧ Below w.heap.size w w' := by
  have hmf : ∀ (fn : Fn) (first cap : Array Value) (w : World), (Instr.makeFunc fn first cap).run Try.prog w = .ok (.func fn first cap) w := fun _ _ _ _ => rfl
  have HP := Lib.hid hP; have HQ := Lib.hid hQ; have HFp := Lib.hid hFp; have HFq := Lib.hid hFq; clear hP hQ hFp hFq
  obtain ⟨Z, hz, hZ⟩ := zero_poly
  have HZ := Lib.hid hZ; clear hZ
  have e1 : (w.alloc (.cells cs 23)).heap.size = w.heap.size + 1 := by simp
  have e2 : ((w.alloc (.cells cs 23)).alloc (.cells es 23)).heap.size = w.heap.size + 2 := by simp
  have HA := Lib.hid (((row_of (heap_alloc_last w (.cells cs 23)) HP.out).alloc (.cells es 23)).alloc (.cells Z 23))
  have r2 := (row_of (heap_alloc_last (w.alloc (.cells cs 23)) (.cells es 23)) HQ.out).alloc (.cells Z 23)
  rw [e1] at r2
  have HBR := Lib.hid r2
  have r3 := heap_alloc_last ((w.alloc (.cells cs 23)).alloc (.cells es 23)) (.cells Z 23)
  rw [e2] at r3
  have HZR := Lib.hid r3
  have HBW := Lib.hid ((((Below.refl _ _).alloc (Nat.le_refl w.heap.size) (.cells cs 23)).alloc (by simp) (.cells es 23)).alloc (by simp <;> omega) (.cells Z 23))
  have E2 := Lib.hid e2; have E1 := Lib.hid e1
  clear r2 r3 e1 e2
  go_enter Try.func20, Try.ntmps20
  go_wp2_with fail
  first | rw [E1.out] | skip
  refine (each_tim1 ⟨w.heap.size, 0, none⟩ ⟨w.heap.size + 1, 0, none⟩ (up (tim (redp p) (redp q))) _ (fun W i hi hB => tim1_any w.heap.size (w.heap.size + 1) p q i W hi (below_at hB HA.out HA.out.lt) (below_at hB HBR.out HBR.out.lt) (HFp.out i hi) (HFq.out i hi))).mono ?_
  rintro e w1 ⟨ds, rfl, hD, hB⟩
  have hq : w1.heap[w.heap.size + 2]? = some (.cells Z 23 (0, 0)) := (hB.block _ (by simp)).trans HZR.out
  have hb : Below w.heap.size w w1 := HBW.out.trans (hB.mono HBW.out.size)
  have hi := poly_sized hD
  have hzm : Z.size = ds.size := by rw [HZ.out.1, hD.1]
  have HD := Lib.hid hD; have HB := Lib.hid hb; have HQ2 := Lib.hid hq; have HI := Lib.hid hi; have HM := Lib.hid hzm; clear hD hB hb hq hi hzm
  go_wp2_with (refine wpList_store_row rfl 23 (.tmp 4) (.tmp 6) rfl (w.heap.size + 2) ds rfl rfl 23 Z HQ2.out HI.out HM.out HD.out.cells ?_)
  refine bodyPost_ret (v := .agg ds) (results_cell_row (p := 4) (ty := 23) (by kernel_rfl) _ _ (w.heap.size + 2) 23 ds (0, 0) _ rfl (setRow_heap _ _ _ _ _ _ HQ2.out) Try.underlying23 rfl HI.out) rfl ⟨ds, rfl, HD.out, below_setRow HB.out (by omega) _⟩
end Go.Proofs.Ytaihlmedeebimaa.Lg
