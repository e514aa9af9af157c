/- Walks: LargeProducts. Written by tools/mk_lgprods.py. -/
import Derived.Test.YtaihlmedeebimaaLgBack
import Derived.Test.YtaihlmedeebimaaLgRefD
namespace Go.Proofs.Ytaihlmedeebimaa.Lg
open Go.RowKit
set_option linter.all false

set_option maxHeartbeats 8000000 in
set_option maxRecDepth 100000 in
theorem prods_walk (c0 c1 : Array Value) (x0 x1 : Nat → Int) (w : World) (hP0 : IsP c0 x0) (hP1 : IsP c1 x1) (hF0 : Fits x0) (hF1 : Fits x1) :
    Calls Try.prog 5 #[.agg c0, .agg c1] w fun e w' => e = .returned (.bool true) ∧ Below w.heap.size w w' := by
  have HP0 := Lib.hid hP0; have HF0 := Lib.hid hF0; clear hP0 hF0
  have HP1 := Lib.hid hP1; have HF1 := Lib.hid hF1; clear hP1 hF1
  obtain ⟨Z, hz, hZ⟩ := zero_poly
  have HZ := Lib.hid hZ
  clear hZ
  have e1 : (w.alloc (.cells c0 23)).heap.size = w.heap.size + 1 := by simp
  have g0 := heap_alloc_last w (.cells c0 23)
  have g0 := (Below.heap_alloc (w.alloc (.cells c0 23)) (.cells c1 23) (w.heap.size) (by rw [e1]; omega)).trans g0
  have HA0 := Lib.hid g0; clear g0
  have g1 := heap_alloc_last (w.alloc (.cells c0 23)) (.cells c1 23)
  rw [e1] at g1
  have HA1 := Lib.hid g1; clear g1
  have HB0 := Lib.hid (((Below.refl w.heap.size w).alloc (Nat.le_refl _) (.cells c0 23)).alloc (by simp <;> omega) (.cells c1 23))
  clear e1
  go_enter Try.func5, Try.ntmps5
  go_wp2_with fail
  refine (head_any _).mono ?_
  rintro e' w1 ⟨rfl, hB⟩
  have hs1 : w.heap.size + 2 ≤ w1.heap.size := by have := hB.size; simpa using this
  have HA0 := Lib.hid ((hB.block (w.heap.size) (by simp <;> omega)).trans HA0.out)
  have HA1 := Lib.hid ((hB.block (w.heap.size + 1) (by simp <;> omega)).trans HA1.out)
  have HB1 := Lib.hid (HB0.out.trans (hB.mono HB0.out.size))
  clear hB HB0
  obtain ⟨b0, hb0⟩ : ∃ b, w.heap.size = b := ⟨_, rfl⟩
  obtain ⟨b1, hb1⟩ : ∃ b, w.heap.size + 1 = b := ⟨_, rfl⟩
  rw [hb0] at HA0
  rw [hb1] at HA1
  have hl0 : b0 < w1.heap.size := by omega
  have hl1 : b1 < w1.heap.size := by omega
  rw [hb1, hb0]
  clear hb1 hb0 hs1
  have HS1 : Hid (Sx [(b0, c0), (b1, c1)] w1.drew) := Lib.hid (sx_two HA0.out HA1.out)
  have HB2 : Hid (Below w.heap.size w w1.drew) := Lib.hid HB1.out.drew
  clear hl0 hl1 HA0 HA1 HB1 hz HZ
  go_wp2
  refine region_calm ?_
  refine wp_region_any (by kernel_rfl) ?_
  change wpAny _ _ _ _ _ _ _ (World.drew _)
  refine wpAny_of_held (S := Sx [(b0, c0), (b1, c1)]) _ _ _ _ ?_
  refine wpAnyH_take (i := 0) (v := ?v0z) rfl (by kernel_rfl) (by kernel_rfl) (by kernel_rfl) (fun _ _ _ h => h) (Or.inl ⟨by rfl, ?y0z⟩) HS1.out ?r0z
  case y0z => (intro w' hSw; clear hSw; go_simp; try with_reducible rfl)
  simp only [List.getElem_toArray, List.getElem_cons_succ, List.getElem_cons_zero, Act.put, List.setIfInBounds_toArray, List.set_cons_zero, List.set_cons_succ]
  refine wpAnyH_take (i := 1) (v := ?v1z) rfl (by kernel_rfl) (by kernel_rfl) (by kernel_rfl) (fun _ _ _ h => h) (Or.inl ⟨by rfl, ?y1z⟩) HS1.out ?r1z
  case y1z => (intro w' hSw; clear hSw; go_simp; try with_reducible rfl)
  simp only [List.getElem_toArray, List.getElem_cons_succ, List.getElem_cons_zero, Act.put, List.setIfInBounds_toArray, List.set_cons_zero, List.set_cons_succ]
  refine wpAnyH_take (i := 2) (v := .agg c0) rfl (by kernel_rfl) (by kernel_rfl) (by kernel_rfl) (fun _ _ _ h => h) (Or.inl ⟨by rfl, ?y2z⟩) HS1.out ?r2z
  case y2z => (intro w' hSw; exact exec_load (.tmp 2) (by rfl) b0 c0 (by rfl) (hSw (b0, c0) (by simp)) (poly_sized HP0.out))
  simp only [List.getElem_toArray, List.getElem_cons_succ, List.getElem_cons_zero, Act.put, List.setIfInBounds_toArray, List.set_cons_zero, List.set_cons_succ]
  refine wpAnyH_take (i := 4) (v := .agg c1) rfl (by kernel_rfl) (by kernel_rfl) (by kernel_rfl) (fun _ _ _ h => h) (Or.inl ⟨by rfl, ?y4z⟩) HS1.out ?r4z
  case y4z => (intro w' hSw; exact exec_load (.tmp 3) (by rfl) b1 c1 (by rfl) (hSw (b1, c1) (by simp)) (poly_sized HP1.out))
  simp only [List.getElem_toArray, List.getElem_cons_succ, List.getElem_cons_zero, Act.put, List.setIfInBounds_toArray, List.set_cons_zero, List.set_cons_succ]
  refine wpAnyH_take (i := 8) (v := .agg c0) rfl (by kernel_rfl) (by kernel_rfl) (by kernel_rfl) (fun _ _ _ h => h) (Or.inl ⟨by rfl, ?y8z⟩) HS1.out ?r8z
  case y8z => (intro w' hSw; exact exec_load (.tmp 2) (by rfl) b0 c0 (by rfl) (hSw (b0, c0) (by simp)) (poly_sized HP0.out))
  simp only [List.getElem_toArray, List.getElem_cons_succ, List.getElem_cons_zero, Act.put, List.setIfInBounds_toArray, List.set_cons_zero, List.set_cons_succ]
  refine wpAnyH_take (i := 9) (v := .agg c1) rfl (by kernel_rfl) (by kernel_rfl) (by kernel_rfl) (fun _ _ _ h => h) (Or.inl ⟨by rfl, ?y9z⟩) HS1.out ?r9z
  case y9z => (intro w' hSw; exact exec_load (.tmp 3) (by rfl) b1 c1 (by rfl) (hSw (b1, c1) (by simp)) (poly_sized HP1.out))
  simp only [List.getElem_toArray, List.getElem_cons_succ, List.getElem_cons_zero, Act.put, List.setIfInBounds_toArray, List.set_cons_zero, List.set_cons_succ]
  refine wpAnyH_ready (rs := [3]) (by kernel_rfl) (by simp) ?_
  refine AllReadyH.cons rfl (fun K hK => ?_) AllReadyH.nil
  simp only [List.getElem_toArray, List.getElem_cons_succ, List.getElem_cons_zero]
  go_simp
  refine (ntt_any c0 x0 _ HP0.out HF0.out).mono ?_
  rintro e' zw1 ⟨d1, rfl, h, hB⟩
  have HSzw1 := Lib.hid (sx_below HS1.out (below_of_drew' hB))
  have HBzw1 := Lib.hid (HB2.out.trans ((below_of_drew' hB).mono HB2.out.size))
  clear hB
  have H1 := Lib.hid h
  clear h
  refine hK.out _ _ HSzw1.out (fun _ => ?_)
  clear hK K
  try simp only [List.getElem_toArray, List.getElem_cons_succ, List.getElem_cons_zero, Act.put, List.setIfInBounds_toArray, List.set_cons_zero, List.set_cons_succ]
  refine wpAnyH_ready (rs := [5]) (by kernel_rfl) (by simp) ?_
  refine AllReadyH.cons rfl (fun K hK => ?_) AllReadyH.nil
  simp only [List.getElem_toArray, List.getElem_cons_succ, List.getElem_cons_zero]
  go_simp
  refine (ntt_any c1 x1 _ HP1.out HF1.out).mono ?_
  rintro e' zw2 ⟨d2, rfl, h, hB⟩
  have HSzw2 := Lib.hid (sx_below HSzw1.out (below_of_drew' hB))
  have HBzw2 := Lib.hid (HBzw1.out.trans ((below_of_drew' hB).mono HBzw1.out.size))
  clear hB
  have H2 := Lib.hid h
  clear h
  refine hK.out _ _ HSzw2.out (fun _ => ?_)
  clear hK K
  try simp only [List.getElem_toArray, List.getElem_cons_succ, List.getElem_cons_zero, Act.put, List.setIfInBounds_toArray, List.set_cons_zero, List.set_cons_succ]
  refine wpAnyH_ready (rs := [6]) (by kernel_rfl) (by simp) ?_
  refine AllReadyH.cons rfl (fun K hK => ?_) AllReadyH.nil
  simp only [List.getElem_toArray, List.getElem_cons_succ, List.getElem_cons_zero]
  go_simp
  refine (tim_any d1 d2 _ _ _ H1.out H2.out (fits_up _) (fits_up _)).mono ?_
  rintro e' zw3 ⟨d3, rfl, h, hB⟩
  have HSzw3 := Lib.hid (sx_below HSzw2.out (below_of_drew' hB))
  have HBzw3 := Lib.hid (HBzw2.out.trans ((below_of_drew' hB).mono HBzw2.out.size))
  clear hB
  rw [redp_up, redp_up] at h
  have H3 := Lib.hid h
  clear h
  refine hK.out _ _ HSzw3.out (fun _ => ?_)
  clear hK K
  try simp only [List.getElem_toArray, List.getElem_cons_succ, List.getElem_cons_zero, Act.put, List.setIfInBounds_toArray, List.set_cons_zero, List.set_cons_succ]
  refine wpAnyH_ready (rs := [7]) (by kernel_rfl) (by simp) ?_
  refine AllReadyH.cons rfl (fun K hK => ?_) AllReadyH.nil
  simp only [List.getElem_toArray, List.getElem_cons_succ, List.getElem_cons_zero]
  go_simp
  refine (inv_any d3 _ _ H3.out (fits_up _)).mono ?_
  rintro e' zw4 ⟨d4, rfl, h, hB⟩
  have HSzw4 := Lib.hid (sx_below HSzw3.out (below_of_drew' hB))
  have HBzw4 := Lib.hid (HBzw3.out.trans ((below_of_drew' hB).mono HBzw3.out.size))
  clear hB
  rw [redp_up] at h
  have H4 := Lib.hid (h.eqv (inv_tim (redp x0) (redp x1)))
  clear h
  refine hK.out _ _ HSzw4.out (fun _ => ?_)
  clear hK K
  try simp only [List.getElem_toArray, List.getElem_cons_succ, List.getElem_cons_zero, Act.put, List.setIfInBounds_toArray, List.set_cons_zero, List.set_cons_succ]
  refine wpAnyH_ready (rs := [10]) (by kernel_rfl) (by simp) ?_
  refine AllReadyH.cons rfl (fun K hK => ?_) AllReadyH.nil
  simp only [List.getElem_toArray, List.getElem_cons_succ, List.getElem_cons_zero]
  go_simp
  refine (rprod_any c0 c1 x0 x1 _ HP0.out HP1.out HF0.out HF1.out).mono ?_
  rintro e' zw5 ⟨d5, rfl, h, hB⟩
  have HSzw5 := Lib.hid (sx_below HSzw4.out (below_of_drew' hB))
  have HBzw5 := Lib.hid (HBzw4.out.trans ((below_of_drew' hB).mono HBzw4.out.size))
  clear hB
  obtain rfl : d4 = d5 := H4.out.same h (Eqv.refl _)
  clear h
  refine hK.out _ _ HSzw5.out (fun _ => ?_)
  clear hK K
  try simp only [List.getElem_toArray, List.getElem_cons_succ, List.getElem_cons_zero, Act.put, List.setIfInBounds_toArray, List.set_cons_zero, List.set_cons_succ]
  refine wpAnyH_take (i := 11) (v := .bool true) rfl (by kernel_rfl) (by kernel_rfl) (by kernel_rfl) (fun _ _ _ h => h) (Or.inl ⟨by rfl, ?y11z⟩) HSzw5.out ?r11z
  case y11z => (intro w' hSw; exact exec_eq (.tmp 14) (.tmp 17) _ (by rfl) _ H4.out (by rfl) (by rfl))
  simp only [List.getElem_toArray, List.getElem_cons_succ, List.getElem_cons_zero, Act.put, List.setIfInBounds_toArray, List.set_cons_zero, List.set_cons_succ]
  refine wpAnyH_take (i := 12) (v := ?v12z) rfl (by kernel_rfl) (by kernel_rfl) (by kernel_rfl) (fun _ _ _ h => h) (Or.inl ⟨by rfl, ?y12z⟩) HSzw5.out ?r12z
  case y12z => (intro w' hSw; clear hSw; go_simp; try with_reducible rfl)
  simp only [List.getElem_toArray, List.getElem_cons_succ, List.getElem_cons_zero, Act.put, List.setIfInBounds_toArray, List.set_cons_zero, List.set_cons_succ]
  refine wpAnyH_take (i := 13) (v := ?v13z) rfl (by kernel_rfl) (by kernel_rfl) (by kernel_rfl) (fun _ _ _ h => h) (Or.inl ⟨by rfl, ?y13z⟩) HSzw5.out ?r13z
  case y13z => (intro w' hSw; clear hSw; go_simp; try with_reducible rfl)
  simp only [List.getElem_toArray, List.getElem_cons_succ, List.getElem_cons_zero, Act.put, List.setIfInBounds_toArray, List.set_cons_zero, List.set_cons_succ]
  refine wpAnyH_done (by kernel_rfl) ?_ _
  change Exit.then _ _ Exit.normal _ _
  go_wp2
  go_ret
  exact ⟨rfl, HBzw5.out⟩
end Go.Proofs.Ytaihlmedeebimaa.Lg
