/- Walks of the document's own: Mod, Add, Sub. Written by tools/mk_smrefb.py. -/
import Derived.Test.YtdkhiooiakdecaaDoorRSmRefA
namespace Go.Proofs.YtdkhiooiakdecaaDoorR.Sm
open Go.RowKit
set_option linter.all false

def partg (x : Nat → F) (p : Nat → Int) (k : Nat) : Nat → Int := fun i => if i < k then nv (x i) else p i
theorem partg_succ {w : World} {b k : Nat} {t : TypeId} {x : Nat → F} {p : Nat → Int} {v : F} (hv : x k = v) (h : w.rowIs b t 256 (ints (partg x p k))) : (w.setCell ⟨b, k, none⟩ (.int .i64 (nv v))).rowIs b t 256 (ints (partg x p (k + 1))) :=
  row_is (row_set h k _) fun i _ => by
    unfold partg
    by_cases e : i = k
    · subst e; rw [if_pos rfl, if_pos (by omega), hv]
    · rw [if_neg e]
      by_cases h : i < k
      · rw [if_pos h, if_pos (by omega)]
      · rw [if_neg h, if_neg (by omega)]
theorem partg_zero {cs : Array Value} {p : Nat → Int} (h : IsP cs p) (x : Nat → F) : IsP cs (partg x p 0) := h.congr fun i _ => by unfold partg; rw [if_neg (by omega)]
theorem partg_all {cs : Array Value} {x : Nat → F} {p : Nat → Int} (h : IsP cs (partg x p 256)) : IsP cs (up x) := h.congr fun i hi => by unfold partg up; rw [if_pos hi]
theorem partg_at (x : Nat → F) (p : Nat → Int) (k : Nat) : partg x p k k = p k := by unfold partg; rw [if_neg (by omega)]

set_option maxHeartbeats 800000 in
set_option maxRecDepth 100000 in
theorem rmod_any (cs : Array Value) (p : Nat → Int) (w : World) (hP : IsP cs p) (hF : Fits p) :
    Calls Tryd.prog 26 #[.agg cs] w fun e w' => ∃ ds, e = .returned (.agg ds) ∧ IsP ds (up (redp p)) ∧ Below w.heap.size w w' := by
  have HP := Lib.hid hP; have HF := Lib.hid hF; clear hP hF
  obtain ⟨Z, hz, hZ⟩ := zero_poly
  have HZ := Lib.hid hZ; clear hZ
  have e : (w.alloc (.cells cs 26)).heap.size = w.heap.size + 1 := by simp
  have HRA := Lib.hid ((row_of (heap_alloc_last w (.cells cs 26)) (partg_zero HP.out (redp p))).alloc (.cells Z 26))
  have hr := heap_alloc_last (w.alloc (.cells cs 26)) (.cells Z 26)
  rw [e] at hr
  have HRZ := Lib.hid hr
  have HB := Lib.hid (((Below.refl _ _).alloc (Nat.le_refl w.heap.size) (.cells cs 26)).alloc (by simp) (.cells Z 26))
  clear hr e
  go_enter Tryd.func26, Tryd.ntmps26
  go_wp2
  clear hz
  go_loopw [3] (fun i W => ∃ k : Nat, k ≤ 256 ∧ i = .int .i64 k ∧ Hid (W.rowIs w.heap.size 26 256 (ints (partg (redp p) p k))) ∧ Hid (W.heap[w.heap.size + 1]? = some (.cells Z 26 (0, 0))) ∧ Hid (Below w.heap.size w W)) (fun i _ => 256 - (intOf i).toNat)
  case atStart => exact ⟨0, by omega, rfl, HRA, HRZ, HB⟩
  case round =>
    clear HRA HRZ HB
    obtain ⟨k, hk, rfl, HR, HQ, HB⟩ := hrel
    by_cases hlt : k < 256
    · obtain ⟨v1, v2⟩ := HF.out k hlt
      have d := HR.out.frozen k
      have hc := HR.out.cell hlt
      unfold ints at hc
      rw [partg_at] at hc
      go_wp2_with fail
      refine (rmod_is _ (redp p k) _ rfl v1 v2).mono ?_
      rintro e' w' ⟨rfl, rfl⟩
      go_wp2
      go_roundw
      case rel => exact ⟨k + 1, by omega, by go_num, Lib.hid (partg_succ rfl HR.out), Lib.hid ((Below.heap_setCell wr _ _ _ (by show w.heap.size + 1 ≠ w.heap.size; omega)).trans HQ.out), Lib.hid (HB.out.setCell (by show w.heap.size ≤ w.heap.size; omega) _)⟩
      case measure => simp [intOf]; omega
    · obtain rfl : k = 256 := by omega
      obtain ⟨ds, hds, hD⟩ := of_row HR.out
      have H1 := Lib.hid hds; have H2 := Lib.hid (partg_all hD); have H3 := Lib.hid (poly_sized hD); have H4 := Lib.hid (show Z.size = ds.size by rw [HZ.out.1, hD.1]); clear hds hD
      go_wp2_with (first | (refine wpList_load_row rfl 26 (.tmp 1) rfl w.heap.size rfl 26 ds (0, 0) _ H1.out Tryd.underlying26 rfl H3.out ?_) | (refine wpList_store_row rfl 26 (.tmp 2) (.tmp 14) rfl (w.heap.size + 1) ds rfl rfl 26 Z HQ.out H3.out H4.out H2.out.cells ?_))
      refine bodyPost_ret (v := .agg ds) (results_cell_row (p := 2) (ty := 26) (by kernel_rfl) _ _ (w.heap.size + 1) 26 ds (0, 0) _ rfl (setRow_heap _ _ _ _ _ _ HQ.out) Tryd.underlying26 rfl H3.out) rfl ⟨ds, rfl, H2.out, below_setRow HB.out (by omega) _⟩

end Go.Proofs.YtdkhiooiakdecaaDoorR.Sm
