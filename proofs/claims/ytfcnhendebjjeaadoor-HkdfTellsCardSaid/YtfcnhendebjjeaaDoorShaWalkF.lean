/- Walks: New, Sum of a hash, Sum. -/
import Derived.Test.YtfcnhendebjjeaaDoorShaWalkE
namespace Go.Proofs.YtfcnhendebjjeaaDoor.Sha
set_option linter.all false
open Go.RowKit

theorem own_lower {w : World} {base base' e sz h n cap : Nat} {xs : List Value} (h1 : w.ownsRow base e sz (.slice (some ⟨h, 0, none⟩) n cap) n xs) (hb : base' ≤ base) : w.ownsRow base' e sz (.slice (some ⟨h, 0, none⟩) n cap) n xs := by
  refine ⟨h1.1, ?_⟩
  rcases h1.2 with h2 | ⟨g, c, cur, he, hbase, rest⟩
  · exact .inl h2
  · exact .inr ⟨g, c, cur, he, Nat.le_trans hb hbase, rest⟩
def zeroHs : Hs := ⟨tab 8 fun _ => 0, tab 64 fun _ => 0, 0⟩
def zc : Array Value := (hcells zeroHs).toArray
theorem zc_size : zc.size = 73 := by simp [zc, hcells_len]
theorem run_zero42 (w : World) : (zeroValue 60).run Tryd.prog w = .ok (.agg zc) w := by
  have h : (Tryd.prog.info? 60).map (·.zero) = some (some (.agg zc)) := by kernel_rfl
  cases hq : Tryd.prog.info? 60 with
  | none => simp [hq] at h
  | some i =>
    have hz : i.zero = some (.agg zc) := by simpa [hq] using h
    simp [zeroValue, typeInfo, hq, hz]
theorem first_size : (numsOf .u32 firstT).size = 8 := rfl
theorem first_built : Array.foldl (fun (cs : Array Value) (x : Value × Nat) => cs.setIfInBounds x.snd x.fst) zc (numsOf .u32 firstT).zipIdx 0 8 = (hcells start).toArray := by kernel_rfl

set_option maxHeartbeats 1000000 in
set_option maxRecDepth 100000 in
theorem new_any (w : World) (hT : Tables w) :
    Calls Tryd.prog 34 #[] w fun e' w' => e' = .returned (.pointer (some ⟨w.heap.size, 0, none⟩)) ∧ HsAt w' w.heap.size start ∧ Below w.heap.size w w' ∧ w'.heap.size = w.heap.size + 1 := by
  obtain ⟨tt, fr, hfi⟩ := hT.first
  have HF := Lib.hid hfi; clear hfi hT
  have hz := run_zero42 w
  have hs := first_size
  have hs2 := zc_size
  have hb := first_built
  go_enter Tryd.func34, Tryd.ntmps34
  go_wp2_with (refine wpList_load_row rfl 58 _ rfl 0 rfl tt _ fr _ HF.out Tryd.underlying58 rfl (by kernel_rfl) ?_)
  go_ret
  exact ⟨rfl, HsAt.of_heap (heap_alloc_last w _), (Below.refl _ _).alloc (Nat.le_refl _) _, by simp⟩

set_option maxHeartbeats 1000000 in
set_option maxRecDepth 100000 in
theorem hsum_any (g : Nat) (s : Hs) (w : World) (hS : HsAt w g s) (hG : Good s) (hT : Tables w) (hm : s.n ≤ 1152921504606846000) :
    Calls Tryd.prog 36 #[.pointer (some ⟨g, 0, none⟩)] w fun e w' => ∃ h cap, e = .returned (.slice (some ⟨h, 0, none⟩) 32 cap) ∧ w'.ownsRow w.heap.size 5 1 (.slice (some ⟨h, 0, none⟩) 32 cap) 32 (bcells (sumOf s)) ∧ Below w.heap.size w w' := by
  have hlt := hS.lt
  have h2 := hT.lt
  have HS := Lib.hid hS; have HG := Lib.hid hG; have HT := Lib.hid hT; clear hS hG hT
  have hi : (Tryd.prog.info? 60).map (·.size) = some (hcells s).toArray.size := by rw [List.size_toArray, hcells_len]; kernel_rfl
  have HI := Lib.hid hi; clear hi
  have HSZ := Lib.hid (show zc.size = (hcells s).toArray.size by rw [zc_size, List.size_toArray, hcells_len])
  have hz := run_zero42 w
  have HONE : Hid ((hcells s).toArray.all (·.oneCell') = true) := Lib.hid (by
    rw [Array.all_eq_true_iff_forall_mem]
    intro v hv
    rw [List.mem_toArray] at hv
    unfold hcells at hv
    obtain ⟨i, _, rfl⟩ := List.mem_map.1 hv
    unfold hsF
    split
    · rfl
    · split <;> rfl)
  have c0 := (HS.out.alloc (.cells (hcells s).toArray 60)).len
  generalize hX : sumOf s = X
  have HX := Lib.hid (fun _ : Unit => hX); clear hX
  go_enter Tryd.func36, Tryd.ntmps36
  go_wp2_with (first | (refine wpList_load_row rfl 60 (.tmp 5) rfl g rfl 60 (hcells s).toArray (0, 0) _ HS.out.heap Tryd.underlying60 rfl HI.out ?_) | (refine wpList_store_row rfl 60 (.tmp 3) (.tmp 6) rfl w.heap.size (hcells s).toArray rfl rfl 60 zc (heap_alloc_last w _) HI.out HSZ.out HONE.out ?_; rw [World.setRow_alloc_new]))
  have HS0 : Hid (HsAt (w.alloc (.cells (hcells s).toArray 60)) w.heap.size s) := Lib.hid (HsAt.of_heap (heap_alloc_last w _))
  have HB0 := Lib.hid ((Below.refl w.heap.size w).alloc (Nat.le_refl _) (.cells (hcells s).toArray 60))
  have HT0 := Lib.hid (HT.out.alloc (.cells (hcells s).toArray 60))
  clear c0
  generalize w.alloc (.cells (hcells s).toArray 60) = W0 at *
  refine (end_any s.n W0 (by omega)).mono ?_
  rintro e W1 ⟨rfl, hR1, hB1, hz1⟩
  have hW0 := HS0.out.lt
  have HS1 := Lib.hid (HS0.out.below hB1 hW0)
  have HT1 := Lib.hid (HT0.out.below hB1 HT0.out.lt)
  have HB1 := Lib.hid (HB0.out.trans (hB1.mono HB0.out.size))
  have HR1 : Hid (Rn W1 w.heap.size (some ⟨W0.heap.size, 0, none⟩) (endL s.n)) := Lib.hid (by
    refine ⟨endL_lt s.n, fun _ => ⟨_, rfl, by show W0.heap.size ≠ w.heap.size; omega, hz1, fun j hj => ?_⟩⟩
    have ha : (⟨W0.heap.size, 0, none⟩ : Addr).add j = ⟨W0.heap.size, j, none⟩ := by unfold Addr.add; split <;> simp_all
    rw [ha, hR1.cell (by rw [endL_len] at hj; exact hj)]; rfl)
  have hl72 := endLen_le s.n
  clear hR1 hB1 hz1
  go_wp2_with fail
  refine (write_any w.heap.size s _ (endL s.n) (endLen s.n) (endLen s.n) _ HS1.out HG.out HT1.out h2 HR1.out (endL_len _) (Nat.le_refl _) (by omega) (by omega)).mono ?_
  rintro e W2 ⟨rfl, hS2, hG2⟩
  have HS2 := Lib.hid hS2; have HB2 := Lib.hid (below_of_only HB1.out hG2 (Nat.le_refl _)); clear hS2 hG2
  go_wp2_with fail
  refine (told_any w.heap.size _ _ HS2.out (good_takeAll _ HG.out (endL_lt _)).st).mono ?_
  rintro e W3 ⟨h, cap, rfl, hown, hB3⟩
  have HOWN := Lib.hid hown; have HB3 := Lib.hid (HB2.out.trans (hB3.mono HB2.out.size)); clear hown hB3
  go_wp2
  go_ret
  refine ⟨h, cap, rfl, ?_, HB3.out⟩
  rw [← HX.out ()]
  exact own_lower HOWN.out HB2.out.size
end Go.Proofs.YtfcnhendebjjeaaDoor.Sha
