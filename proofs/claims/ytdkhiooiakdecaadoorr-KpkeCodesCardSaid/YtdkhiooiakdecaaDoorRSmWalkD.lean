/- Walks: Mod, Add, Sub. -/
import Derived.Test.YtdkhiooiakdecaaDoorRSmWalkC
namespace Go.Proofs.YtdkhiooiakdecaaDoorR.Sm
open Go.RowKit
set_option linter.all false

def Fits (p : Nat → Int) : Prop := ∀ i, i < 256 → -9223372036854775808 ≤ p i ∧ p i ≤ 9223372036854775807
theorem fits_up (f : Nat → F) : Fits (up f) := fun i _ => by unfold up; have := nv_lo (f i); have := nv_hi (f i); omega
def redp (p : Nat → Int) : Nat → F := fun i => red (p i)
theorem redp_up (f : Nat → F) : redp (up f) = f := by funext i; exact red_nv _

set_option maxHeartbeats 800000 in
set_option maxRecDepth 100000 in
theorem mod_any (cs : Array Value) (p : Nat → Int) (w : World) (hP : IsP cs p) (hF : Fits p) :
    Calls Tryd.prog 41 #[.agg cs] w fun e w' => ∃ ds, e = .returned (.agg ds) ∧ IsP ds (up (redp p)) ∧ Below w.heap.size w w' := by
  have hmf : ∀ (fn : Fn) (first cap : Array Value) (w : World), (Instr.makeFunc fn first cap).run Tryd.prog w = .ok (.func fn first cap) w := fun _ _ _ _ => rfl
  have HP := Lib.hid hP; have HF := Lib.hid hF; clear hP hF
  obtain ⟨Z, hz, hZ⟩ := zero_poly
  have HZ := Lib.hid hZ; clear hZ
  have HR := Lib.hid (row_of (heap_alloc_last w (.cells cs 26)) HP.out)
  have es : (w.alloc (.cells cs 26)).heap.size = w.heap.size + 1 := by simp
  have ES := Lib.hid es; clear es
  go_enter Tryd.func41, Tryd.ntmps41
  go_wp2_with fail
  refine (each_mod1 ⟨w.heap.size, 0, none⟩ p (redp p) _ (fun i hi => ⟨(HF.out i hi).1, (HF.out i hi).2, rfl⟩) (fun W i hi hB => mod1_any w.heap.size p i W hi (below_at hB (HR.out.alloc _) (by simp; omega)))).mono ?_
  rintro e w1 ⟨ds, rfl, hD, hB⟩
  have hq : w1.heap[w.heap.size + 1]? = some (.cells Z 26 (0, 0)) := by
    have h2 := heap_alloc_last (w.alloc (.cells cs 26)) (.cells Z 26)
    rw [ES.out] at h2
    exact (hB.block _ (by simp)).trans h2
  have hb : Below w.heap.size w w1 := (((Below.refl _ _).alloc (Nat.le_refl _) _).alloc (by simp) _).trans (hB.mono (by simp; omega))
  have hi := poly_sized hD
  have hzm : Z.size = ds.size := by rw [HZ.out.1, hD.1]
  have HD := Lib.hid hD; have HB := Lib.hid hb; have HQ := Lib.hid hq; have HI := Lib.hid hi; have HM := Lib.hid hzm; clear hD hB hb hq hi hzm
  go_wp2_with (refine wpList_store_row rfl 26 (.tmp 2) (.tmp 4) rfl (w.heap.size + 1) ds rfl rfl 26 Z HQ.out HI.out HM.out HD.out.cells ?_)
  refine bodyPost_ret (v := .agg ds) (results_cell_row (p := 2) (ty := 26) (by kernel_rfl) _ _ (w.heap.size + 1) 26 ds (0, 0) _ rfl (setRow_heap _ _ _ _ _ _ HQ.out) Tryd.underlying26 rfl HI.out) rfl ⟨ds, rfl, HD.out, below_setRow HB.out (by omega) _⟩
end Go.Proofs.YtdkhiooiakdecaaDoorR.Sm
