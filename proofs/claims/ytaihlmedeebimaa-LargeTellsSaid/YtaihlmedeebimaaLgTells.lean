/- Walks: LargeTells. Written by tools/mk_lgtells.py. -/
import Derived.Test.YtaihlmedeebimaaLgBack
import Derived.Test.YtaihlmedeebimaaLgRefC
import Derived.Test.YtaihlmedeebimaaLgRefE
namespace Go.Proofs.Ytaihlmedeebimaa.Lg
open Go.RowKit
set_option linter.all false

set_option maxHeartbeats 8000000 in
set_option maxRecDepth 100000 in
theorem tells_walk (c0 c1 : Array Value) (x0 x1 : Nat → Int) (w : World) (hP0 : IsP c0 x0) (hP1 : IsP c1 x1) (hF0 : Fits x0) (hF1 : Fits x1) :
    Calls Try.prog 3 #[.agg c0, .agg c1] w fun e w' => e = .returned (.bool true) ∧ Below w.heap.size w w' := by
  have HP0 := Lib.hid hP0; have HF0 := Lib.hid hF0; clear hP0 hF0
  have HP1 := Lib.hid hP1; have HF1 := Lib.hid hF1; clear hP1 hF1
  obtain ⟨Z, hz, hZ⟩ := zero_poly
  have HZ := Lib.hid hZ
  clear hZ
  have e1 : (w.alloc (.cells c0 23)).heap.size = w.heap.size + 1 := by simp
  have g0 := heap_alloc_last w (.cells c0 23)
  have g0 := (Below.heap_alloc (w.alloc (.cells c0 23)) (.cells c1 23) (w.heap.size) (by rw [e1]; omega)).trans g0
  have HA0 := Lib.hid g0; clear g0
  have g1 := heap_alloc_last (w.alloc (.cells c0 23)) (.cells c1 23)
  rw [e1] at g1
  have HA1 := Lib.hid g1; clear g1
  have HB0 := Lib.hid (((Below.refl w.heap.size w).alloc (Nat.le_refl _) (.cells c0 23)).alloc (by simp <;> omega) (.cells c1 23))
  clear e1
  go_enter Try.func3, Try.ntmps3
  go_wp2_with fail
  refine (head_any _).mono ?_
  rintro e' w1 ⟨rfl, hB⟩
  have hs1 : w.heap.size + 2 ≤ w1.heap.size := by have := hB.size; simpa using this
  have HA0 := Lib.hid ((hB.block (w.heap.size) (by simp <;> omega)).trans HA0.out)
  have HA1 := Lib.hid ((hB.block (w.heap.size + 1) (by simp <;> omega)).trans HA1.out)
  have HB1 := Lib.hid (HB0.out.trans (hB.mono HB0.out.size))
  clear hB HB0
  obtain ⟨b0, hb0⟩ : ∃ b, w.heap.size = b := ⟨_, rfl⟩
  obtain ⟨b1, hb1⟩ : ∃ b, w.heap.size + 1 = b := ⟨_, rfl⟩
  rw [hb0] at HA0
  rw [hb1] at HA1
  have hl0 : b0 < w1.heap.size := by omega
  have hl1 : b1 < w1.heap.size := by omega
  rw [hb1, hb0]
  clear hb1 hb0 hs1
  have HS1 : Hid (Sx [(b0, c0), (b1, c1)] w1.drew) := Lib.hid (sx_two HA0.out HA1.out)
  have HB2 : Hid (Below w.heap.size w w1.drew) := Lib.hid HB1.out.drew
  clear hl0 hl1 HA0 HA1 HB1 hz HZ
  go_wp2
  refine region_calm ?_
  refine wp_region_any (by kernel_rfl) ?_
  change wpAny _ _ _ _ _ _ _ (World.drew _)
  refine wpAny_of_held (S := Sx [(b0, c0), (b1, c1)]) _ _ _ _ ?_
  refine wpAnyH_take (i := 0) (v := .agg c0) rfl (by kernel_rfl) (by kernel_rfl) (by kernel_rfl) (fun _ _ _ h => h) (Or.inl ⟨by rfl, ?y0a⟩) HS1.out ?r0a
  case y0a => (intro w' hSw; exact exec_load (.tmp 2) (by rfl) b0 c0 (by rfl) (hSw (b0, c0) (by simp)) (poly_sized HP0.out))
  simp only [List.getElem_toArray, List.getElem_cons_succ, List.getElem_cons_zero, Act.put, List.setIfInBounds_toArray, List.set_cons_zero, List.set_cons_succ]
  refine wpAnyH_take (i := 2) (v := .agg c0) rfl (by kernel_rfl) (by kernel_rfl) (by kernel_rfl) (fun _ _ _ h => h) (Or.inl ⟨by rfl, ?y2a⟩) HS1.out ?r2a
  case y2a => (intro w' hSw; exact exec_load (.tmp 2) (by rfl) b0 c0 (by rfl) (hSw (b0, c0) (by simp)) (poly_sized HP0.out))
  simp only [List.getElem_toArray, List.getElem_cons_succ, List.getElem_cons_zero, Act.put, List.setIfInBounds_toArray, List.set_cons_zero, List.set_cons_succ]
  refine wpAnyH_ready (rs := [1]) (by kernel_rfl) (by simp) ?_
  refine AllReadyH.cons rfl (fun K hK => ?_) AllReadyH.nil
  simp only [List.getElem_toArray, List.getElem_cons_succ, List.getElem_cons_zero]
  go_simp
  refine (mod_any c0 x0 _ HP0.out HF0.out).mono ?_
  rintro e' aw1 ⟨d1, rfl, h, hB⟩
  have HSaw1 := Lib.hid (sx_below HS1.out (below_of_drew' hB))
  have HBaw1 := Lib.hid (HB2.out.trans ((below_of_drew' hB).mono HB2.out.size))
  clear hB
  have Hd1 := Lib.hid h
  clear h
  refine hK.out _ _ HSaw1.out (fun _ => ?_)
  clear hK K
  try simp only [List.getElem_toArray, List.getElem_cons_succ, List.getElem_cons_zero, Act.put, List.setIfInBounds_toArray, List.set_cons_zero, List.set_cons_succ]
  refine wpAnyH_ready (rs := [3]) (by kernel_rfl) (by simp) ?_
  refine AllReadyH.cons rfl (fun K hK => ?_) AllReadyH.nil
  simp only [List.getElem_toArray, List.getElem_cons_succ, List.getElem_cons_zero]
  go_simp
  refine (rmod_any c0 x0 _ HP0.out HF0.out).mono ?_
  rintro e' aw2 ⟨d1', rfl, h, hB⟩
  have HSaw2 := Lib.hid (sx_below HSaw1.out (below_of_drew' hB))
  have HBaw2 := Lib.hid (HBaw1.out.trans ((below_of_drew' hB).mono HBaw1.out.size))
  clear hB
  obtain rfl : d1 = d1' := Hd1.out.same h (Eqv.refl _)
  clear h
  refine hK.out _ _ HSaw2.out (fun _ => ?_)
  clear hK K
  try simp only [List.getElem_toArray, List.getElem_cons_succ, List.getElem_cons_zero, Act.put, List.setIfInBounds_toArray, List.set_cons_zero, List.set_cons_succ]
  refine wpAnyH_take (i := 4) (v := .bool true) rfl (by kernel_rfl) (by kernel_rfl) (by kernel_rfl) (fun _ _ _ h => h) (Or.inl ⟨by rfl, ?y4a⟩) HSaw2.out ?r4a
  case y4a => (intro w' hSw; exact exec_eq (.tmp 9) (.tmp 11) _ (by rfl) _ Hd1.out (by rfl) (by rfl))
  simp only [List.getElem_toArray, List.getElem_cons_succ, List.getElem_cons_zero, Act.put, List.setIfInBounds_toArray, List.set_cons_zero, List.set_cons_succ]
  refine wpAnyH_take (i := 5) (v := ?v5a) rfl (by kernel_rfl) (by kernel_rfl) (by kernel_rfl) (fun _ _ _ h => h) (Or.inl ⟨by rfl, ?y5a⟩) HSaw2.out ?r5a
  case y5a => (intro w' hSw; clear hSw; go_simp; try with_reducible rfl)
  simp only [List.getElem_toArray, List.getElem_cons_succ, List.getElem_cons_zero, Act.put, List.setIfInBounds_toArray, List.set_cons_zero, List.set_cons_succ]
  refine wpAnyH_take (i := 6) (v := .agg c0) rfl (by kernel_rfl) (by kernel_rfl) (by kernel_rfl) (fun _ _ _ h => h) (Or.inl ⟨by rfl, ?y6a⟩) HSaw2.out ?r6a
  case y6a => (intro w' hSw; exact exec_load (.tmp 2) (by rfl) b0 c0 (by rfl) (hSw (b0, c0) (by simp)) (poly_sized HP0.out))
  simp only [List.getElem_toArray, List.getElem_cons_succ, List.getElem_cons_zero, Act.put, List.setIfInBounds_toArray, List.set_cons_zero, List.set_cons_succ]
  refine wpAnyH_take (i := 8) (v := .agg c0) rfl (by kernel_rfl) (by kernel_rfl) (by kernel_rfl) (fun _ _ _ h => h) (Or.inl ⟨by rfl, ?y8a⟩) HSaw2.out ?r8a
  case y8a => (intro w' hSw; exact exec_load (.tmp 2) (by rfl) b0 c0 (by rfl) (hSw (b0, c0) (by simp)) (poly_sized HP0.out))
  simp only [List.getElem_toArray, List.getElem_cons_succ, List.getElem_cons_zero, Act.put, List.setIfInBounds_toArray, List.set_cons_zero, List.set_cons_succ]
  refine wpAnyH_ready (rs := [7]) (by kernel_rfl) (by simp) ?_
  refine AllReadyH.cons rfl (fun K hK => ?_) AllReadyH.nil
  simp only [List.getElem_toArray, List.getElem_cons_succ, List.getElem_cons_zero]
  go_simp
  refine (cen_any c0 x0 _ HP0.out HF0.out).mono ?_
  rintro e' aw3 ⟨e1, rfl, h, hB⟩
  have HSaw3 := Lib.hid (sx_below HSaw2.out (below_of_drew' hB))
  have HBaw3 := Lib.hid (HBaw2.out.trans ((below_of_drew' hB).mono HBaw2.out.size))
  clear hB
  have He1 := Lib.hid h
  clear h
  refine hK.out _ _ HSaw3.out (fun _ => ?_)
  clear hK K
  try simp only [List.getElem_toArray, List.getElem_cons_succ, List.getElem_cons_zero, Act.put, List.setIfInBounds_toArray, List.set_cons_zero, List.set_cons_succ]
  refine wpAnyH_ready (rs := [9]) (by kernel_rfl) (by simp) ?_
  refine AllReadyH.cons rfl (fun K hK => ?_) AllReadyH.nil
  simp only [List.getElem_toArray, List.getElem_cons_succ, List.getElem_cons_zero]
  go_simp
  refine (rcen_any c0 x0 _ HP0.out HF0.out).mono ?_
  rintro e' aw4 ⟨e1', rfl, h, hB⟩
  have HSaw4 := Lib.hid (sx_below HSaw3.out (below_of_drew' hB))
  have HBaw4 := Lib.hid (HBaw3.out.trans ((below_of_drew' hB).mono HBaw3.out.size))
  clear hB
  obtain rfl : e1 = e1' := He1.out.one h (fun _ _ => rfl)
  clear h
  refine hK.out _ _ HSaw4.out (fun _ => ?_)
  clear hK K
  try simp only [List.getElem_toArray, List.getElem_cons_succ, List.getElem_cons_zero, Act.put, List.setIfInBounds_toArray, List.set_cons_zero, List.set_cons_succ]
  refine wpAnyH_take (i := 10) (v := .bool true) rfl (by kernel_rfl) (by kernel_rfl) (by kernel_rfl) (fun _ _ _ h => h) (Or.inl ⟨by rfl, ?y10a⟩) HSaw4.out ?r10a
  case y10a => (intro w' hSw; exact exec_eq (.tmp 15) (.tmp 17) _ (by rfl) _ He1.out (by rfl) (by rfl))
  simp only [List.getElem_toArray, List.getElem_cons_succ, List.getElem_cons_zero, Act.put, List.setIfInBounds_toArray, List.set_cons_zero, List.set_cons_succ]
  refine wpAnyH_take (i := 11) (v := ?v11a) rfl (by kernel_rfl) (by kernel_rfl) (by kernel_rfl) (fun _ _ _ h => h) (Or.inl ⟨by rfl, ?y11a⟩) HSaw4.out ?r11a
  case y11a => (intro w' hSw; clear hSw; go_simp; try with_reducible rfl)
  simp only [List.getElem_toArray, List.getElem_cons_succ, List.getElem_cons_zero, Act.put, List.setIfInBounds_toArray, List.set_cons_zero, List.set_cons_succ]
  refine wpAnyH_take (i := 12) (v := ?v12a) rfl (by kernel_rfl) (by kernel_rfl) (by kernel_rfl) (fun _ _ _ h => h) (Or.inl ⟨by rfl, ?y12a⟩) HSaw4.out ?r12a
  case y12a => (intro w' hSw; clear hSw; go_simp; try with_reducible rfl)
  simp only [List.getElem_toArray, List.getElem_cons_succ, List.getElem_cons_zero, Act.put, List.setIfInBounds_toArray, List.set_cons_zero, List.set_cons_succ]
  refine wpAnyH_take (i := 13) (v := .agg c0) rfl (by kernel_rfl) (by kernel_rfl) (by kernel_rfl) (fun _ _ _ h => h) (Or.inl ⟨by rfl, ?y13a⟩) HSaw4.out ?r13a
  case y13a => (intro w' hSw; exact exec_load (.tmp 2) (by rfl) b0 c0 (by rfl) (hSw (b0, c0) (by simp)) (poly_sized HP0.out))
  simp only [List.getElem_toArray, List.getElem_cons_succ, List.getElem_cons_zero, Act.put, List.setIfInBounds_toArray, List.set_cons_zero, List.set_cons_succ]
  refine wpAnyH_take (i := 15) (v := .agg c0) rfl (by kernel_rfl) (by kernel_rfl) (by kernel_rfl) (fun _ _ _ h => h) (Or.inl ⟨by rfl, ?y15a⟩) HSaw4.out ?r15a
  case y15a => (intro w' hSw; exact exec_load (.tmp 2) (by rfl) b0 c0 (by rfl) (hSw (b0, c0) (by simp)) (poly_sized HP0.out))
  simp only [List.getElem_toArray, List.getElem_cons_succ, List.getElem_cons_zero, Act.put, List.setIfInBounds_toArray, List.set_cons_zero, List.set_cons_succ]
  refine wpAnyH_ready (rs := [14]) (by kernel_rfl) (by simp) ?_
  refine AllReadyH.cons rfl (fun K hK => ?_) AllReadyH.nil
  simp only [List.getElem_toArray, List.getElem_cons_succ, List.getElem_cons_zero]
  go_simp
  refine (size_any c0 x0 _ HP0.out HF0.out).mono ?_
  rintro e' aw5 ⟨rfl, hB⟩
  have HSaw5 := Lib.hid (sx_below HSaw4.out (below_of_drew' hB))
  have HBaw5 := Lib.hid (HBaw4.out.trans ((below_of_drew' hB).mono HBaw4.out.size))
  clear hB
  refine hK.out _ _ HSaw5.out (fun _ => ?_)
  clear hK K
  try simp only [List.getElem_toArray, List.getElem_cons_succ, List.getElem_cons_zero, Act.put, List.setIfInBounds_toArray, List.set_cons_zero, List.set_cons_succ]
  refine wpAnyH_ready (rs := [16]) (by kernel_rfl) (by simp) ?_
  refine AllReadyH.cons rfl (fun K hK => ?_) AllReadyH.nil
  simp only [List.getElem_toArray, List.getElem_cons_succ, List.getElem_cons_zero]
  go_simp
  refine (rsize_any c0 x0 _ HP0.out HF0.out).mono ?_
  rintro e' aw6 ⟨rfl, hB⟩
  have HSaw6 := Lib.hid (sx_below HSaw5.out (below_of_drew' hB))
  have HBaw6 := Lib.hid (HBaw5.out.trans ((below_of_drew' hB).mono HBaw5.out.size))
  clear hB
  refine hK.out _ _ HSaw6.out (fun _ => ?_)
  clear hK K
  try simp only [List.getElem_toArray, List.getElem_cons_succ, List.getElem_cons_zero, Act.put, List.setIfInBounds_toArray, List.set_cons_zero, List.set_cons_succ]
  refine wpAnyH_take (i := 17) (v := ?v17a) rfl (by kernel_rfl) (by kernel_rfl) (by kernel_rfl) (fun _ _ _ h => h) (Or.inl ⟨by rfl, ?y17a⟩) HSaw6.out ?r17a
  case y17a => (intro w' hSw; clear hSw; go_simp; try with_reducible rfl)
  simp only [List.getElem_toArray, List.getElem_cons_succ, List.getElem_cons_zero, Act.put, List.setIfInBounds_toArray, List.set_cons_zero, List.set_cons_succ]
  refine wpAnyH_take (i := 18) (v := ?v18a) rfl (by kernel_rfl) (by kernel_rfl) (by kernel_rfl) (fun _ _ _ h => h) (Or.inl ⟨by rfl, ?y18a⟩) HSaw6.out ?r18a
  case y18a => (intro w' hSw; clear hSw; go_simp; try with_reducible rfl)
  simp only [List.getElem_toArray, List.getElem_cons_succ, List.getElem_cons_zero, Act.put, List.setIfInBounds_toArray, List.set_cons_zero, List.set_cons_succ]
  refine wpAnyH_take (i := 19) (v := ?v19a) rfl (by kernel_rfl) (by kernel_rfl) (by kernel_rfl) (fun _ _ _ h => h) (Or.inl ⟨by rfl, ?y19a⟩) HSaw6.out ?r19a
  case y19a => (intro w' hSw; clear hSw; go_simp; try with_reducible rfl)
  simp only [List.getElem_toArray, List.getElem_cons_succ, List.getElem_cons_zero, Act.put, List.setIfInBounds_toArray, List.set_cons_zero, List.set_cons_succ]
  refine wpAnyH_take (i := 20) (v := .agg c0) rfl (by kernel_rfl) (by kernel_rfl) (by kernel_rfl) (fun _ _ _ h => h) (Or.inl ⟨by rfl, ?y20a⟩) HSaw6.out ?r20a
  case y20a => (intro w' hSw; exact exec_load (.tmp 2) (by rfl) b0 c0 (by rfl) (hSw (b0, c0) (by simp)) (poly_sized HP0.out))
  simp only [List.getElem_toArray, List.getElem_cons_succ, List.getElem_cons_zero, Act.put, List.setIfInBounds_toArray, List.set_cons_zero, List.set_cons_succ]
  refine wpAnyH_take (i := 21) (v := .agg c1) rfl (by kernel_rfl) (by kernel_rfl) (by kernel_rfl) (fun _ _ _ h => h) (Or.inl ⟨by rfl, ?y21a⟩) HSaw6.out ?r21a
  case y21a => (intro w' hSw; exact exec_load (.tmp 3) (by rfl) b1 c1 (by rfl) (hSw (b1, c1) (by simp)) (poly_sized HP1.out))
  simp only [List.getElem_toArray, List.getElem_cons_succ, List.getElem_cons_zero, Act.put, List.setIfInBounds_toArray, List.set_cons_zero, List.set_cons_succ]
  refine wpAnyH_take (i := 23) (v := .agg c0) rfl (by kernel_rfl) (by kernel_rfl) (by kernel_rfl) (fun _ _ _ h => h) (Or.inl ⟨by rfl, ?y23a⟩) HSaw6.out ?r23a
  case y23a => (intro w' hSw; exact exec_load (.tmp 2) (by rfl) b0 c0 (by rfl) (hSw (b0, c0) (by simp)) (poly_sized HP0.out))
  simp only [List.getElem_toArray, List.getElem_cons_succ, List.getElem_cons_zero, Act.put, List.setIfInBounds_toArray, List.set_cons_zero, List.set_cons_succ]
  refine wpAnyH_take (i := 24) (v := .agg c1) rfl (by kernel_rfl) (by kernel_rfl) (by kernel_rfl) (fun _ _ _ h => h) (Or.inl ⟨by rfl, ?y24a⟩) HSaw6.out ?r24a
  case y24a => (intro w' hSw; exact exec_load (.tmp 3) (by rfl) b1 c1 (by rfl) (hSw (b1, c1) (by simp)) (poly_sized HP1.out))
  simp only [List.getElem_toArray, List.getElem_cons_succ, List.getElem_cons_zero, Act.put, List.setIfInBounds_toArray, List.set_cons_zero, List.set_cons_succ]
  refine wpAnyH_ready (rs := [22]) (by kernel_rfl) (by simp) ?_
  refine AllReadyH.cons rfl (fun K hK => ?_) AllReadyH.nil
  simp only [List.getElem_toArray, List.getElem_cons_succ, List.getElem_cons_zero]
  go_simp
  refine (add_any c0 c1 x0 x1 _ HP0.out HP1.out HF0.out HF1.out).mono ?_
  rintro e' aw7 ⟨d2, rfl, h, hB⟩
  have HSaw7 := Lib.hid (sx_below HSaw6.out (below_of_drew' hB))
  have HBaw7 := Lib.hid (HBaw6.out.trans ((below_of_drew' hB).mono HBaw6.out.size))
  clear hB
  have Hd2 := Lib.hid h
  clear h
  refine hK.out _ _ HSaw7.out (fun _ => ?_)
  clear hK K
  try simp only [List.getElem_toArray, List.getElem_cons_succ, List.getElem_cons_zero, Act.put, List.setIfInBounds_toArray, List.set_cons_zero, List.set_cons_succ]
  refine wpAnyH_ready (rs := [25]) (by kernel_rfl) (by simp) ?_
  refine AllReadyH.cons rfl (fun K hK => ?_) AllReadyH.nil
  simp only [List.getElem_toArray, List.getElem_cons_succ, List.getElem_cons_zero]
  go_simp
  refine (radd_any c0 c1 x0 x1 _ HP0.out HP1.out HF0.out HF1.out).mono ?_
  rintro e' aw8 ⟨d2', rfl, h, hB⟩
  have HSaw8 := Lib.hid (sx_below HSaw7.out (below_of_drew' hB))
  have HBaw8 := Lib.hid (HBaw7.out.trans ((below_of_drew' hB).mono HBaw7.out.size))
  clear hB
  obtain rfl : d2 = d2' := Hd2.out.same h (Eqv.refl _)
  clear h
  refine hK.out _ _ HSaw8.out (fun _ => ?_)
  clear hK K
  try simp only [List.getElem_toArray, List.getElem_cons_succ, List.getElem_cons_zero, Act.put, List.setIfInBounds_toArray, List.set_cons_zero, List.set_cons_succ]
  refine wpAnyH_take (i := 26) (v := .bool true) rfl (by kernel_rfl) (by kernel_rfl) (by kernel_rfl) (fun _ _ _ h => h) (Or.inl ⟨by rfl, ?y26a⟩) HSaw8.out ?r26a
  case y26a => (intro w' hSw; exact exec_eq (.tmp 30) (.tmp 33) _ (by rfl) _ Hd2.out (by rfl) (by rfl))
  simp only [List.getElem_toArray, List.getElem_cons_succ, List.getElem_cons_zero, Act.put, List.setIfInBounds_toArray, List.set_cons_zero, List.set_cons_succ]
  refine wpAnyH_take (i := 27) (v := ?v27a) rfl (by kernel_rfl) (by kernel_rfl) (by kernel_rfl) (fun _ _ _ h => h) (Or.inl ⟨by rfl, ?y27a⟩) HSaw8.out ?r27a
  case y27a => (intro w' hSw; clear hSw; go_simp; try with_reducible rfl)
  simp only [List.getElem_toArray, List.getElem_cons_succ, List.getElem_cons_zero, Act.put, List.setIfInBounds_toArray, List.set_cons_zero, List.set_cons_succ]
  refine wpAnyH_take (i := 28) (v := ?v28a) rfl (by kernel_rfl) (by kernel_rfl) (by kernel_rfl) (fun _ _ _ h => h) (Or.inl ⟨by rfl, ?y28a⟩) HSaw8.out ?r28a
  case y28a => (intro w' hSw; clear hSw; go_simp; try with_reducible rfl)
  simp only [List.getElem_toArray, List.getElem_cons_succ, List.getElem_cons_zero, Act.put, List.setIfInBounds_toArray, List.set_cons_zero, List.set_cons_succ]
  refine wpAnyH_take (i := 29) (v := .agg c0) rfl (by kernel_rfl) (by kernel_rfl) (by kernel_rfl) (fun _ _ _ h => h) (Or.inl ⟨by rfl, ?y29a⟩) HSaw8.out ?r29a
  case y29a => (intro w' hSw; exact exec_load (.tmp 2) (by rfl) b0 c0 (by rfl) (hSw (b0, c0) (by simp)) (poly_sized HP0.out))
  simp only [List.getElem_toArray, List.getElem_cons_succ, List.getElem_cons_zero, Act.put, List.setIfInBounds_toArray, List.set_cons_zero, List.set_cons_succ]
  refine wpAnyH_take (i := 30) (v := .agg c1) rfl (by kernel_rfl) (by kernel_rfl) (by kernel_rfl) (fun _ _ _ h => h) (Or.inl ⟨by rfl, ?y30a⟩) HSaw8.out ?r30a
  case y30a => (intro w' hSw; exact exec_load (.tmp 3) (by rfl) b1 c1 (by rfl) (hSw (b1, c1) (by simp)) (poly_sized HP1.out))
  simp only [List.getElem_toArray, List.getElem_cons_succ, List.getElem_cons_zero, Act.put, List.setIfInBounds_toArray, List.set_cons_zero, List.set_cons_succ]
  refine wpAnyH_take (i := 32) (v := .agg c0) rfl (by kernel_rfl) (by kernel_rfl) (by kernel_rfl) (fun _ _ _ h => h) (Or.inl ⟨by rfl, ?y32a⟩) HSaw8.out ?r32a
  case y32a => (intro w' hSw; exact exec_load (.tmp 2) (by rfl) b0 c0 (by rfl) (hSw (b0, c0) (by simp)) (poly_sized HP0.out))
  simp only [List.getElem_toArray, List.getElem_cons_succ, List.getElem_cons_zero, Act.put, List.setIfInBounds_toArray, List.set_cons_zero, List.set_cons_succ]
  refine wpAnyH_take (i := 33) (v := .agg c1) rfl (by kernel_rfl) (by kernel_rfl) (by kernel_rfl) (fun _ _ _ h => h) (Or.inl ⟨by rfl, ?y33a⟩) HSaw8.out ?r33a
  case y33a => (intro w' hSw; exact exec_load (.tmp 3) (by rfl) b1 c1 (by rfl) (hSw (b1, c1) (by simp)) (poly_sized HP1.out))
  simp only [List.getElem_toArray, List.getElem_cons_succ, List.getElem_cons_zero, Act.put, List.setIfInBounds_toArray, List.set_cons_zero, List.set_cons_succ]
  refine wpAnyH_ready (rs := [31]) (by kernel_rfl) (by simp) ?_
  refine AllReadyH.cons rfl (fun K hK => ?_) AllReadyH.nil
  simp only [List.getElem_toArray, List.getElem_cons_succ, List.getElem_cons_zero]
  go_simp
  refine (sub_any c0 c1 x0 x1 _ HP0.out HP1.out HF0.out HF1.out).mono ?_
  rintro e' aw9 ⟨d3, rfl, h, hB⟩
  have HSaw9 := Lib.hid (sx_below HSaw8.out (below_of_drew' hB))
  have HBaw9 := Lib.hid (HBaw8.out.trans ((below_of_drew' hB).mono HBaw8.out.size))
  clear hB
  have Hd3 := Lib.hid h
  clear h
  refine hK.out _ _ HSaw9.out (fun _ => ?_)
  clear hK K
  try simp only [List.getElem_toArray, List.getElem_cons_succ, List.getElem_cons_zero, Act.put, List.setIfInBounds_toArray, List.set_cons_zero, List.set_cons_succ]
  refine wpAnyH_ready (rs := [34]) (by kernel_rfl) (by simp) ?_
  refine AllReadyH.cons rfl (fun K hK => ?_) AllReadyH.nil
  simp only [List.getElem_toArray, List.getElem_cons_succ, List.getElem_cons_zero]
  go_simp
  refine (rsub_any c0 c1 x0 x1 _ HP0.out HP1.out HF0.out HF1.out).mono ?_
  rintro e' aw10 ⟨d3', rfl, h, hB⟩
  have HSaw10 := Lib.hid (sx_below HSaw9.out (below_of_drew' hB))
  have HBaw10 := Lib.hid (HBaw9.out.trans ((below_of_drew' hB).mono HBaw9.out.size))
  clear hB
  obtain rfl : d3 = d3' := Hd3.out.same h (Eqv.refl _)
  clear h
  refine hK.out _ _ HSaw10.out (fun _ => ?_)
  clear hK K
  try simp only [List.getElem_toArray, List.getElem_cons_succ, List.getElem_cons_zero, Act.put, List.setIfInBounds_toArray, List.set_cons_zero, List.set_cons_succ]
  refine wpAnyH_take (i := 35) (v := .bool true) rfl (by kernel_rfl) (by kernel_rfl) (by kernel_rfl) (fun _ _ _ h => h) (Or.inl ⟨by rfl, ?y35a⟩) HSaw10.out ?r35a
  case y35a => (intro w' hSw; exact exec_eq (.tmp 39) (.tmp 42) _ (by rfl) _ Hd3.out (by rfl) (by rfl))
  simp only [List.getElem_toArray, List.getElem_cons_succ, List.getElem_cons_zero, Act.put, List.setIfInBounds_toArray, List.set_cons_zero, List.set_cons_succ]
  refine wpAnyH_take (i := 36) (v := ?v36a) rfl (by kernel_rfl) (by kernel_rfl) (by kernel_rfl) (fun _ _ _ h => h) (Or.inl ⟨by rfl, ?y36a⟩) HSaw10.out ?r36a
  case y36a => (intro w' hSw; clear hSw; go_simp; try with_reducible rfl)
  simp only [List.getElem_toArray, List.getElem_cons_succ, List.getElem_cons_zero, Act.put, List.setIfInBounds_toArray, List.set_cons_zero, List.set_cons_succ]
  refine wpAnyH_take (i := 37) (v := ?v37a) rfl (by kernel_rfl) (by kernel_rfl) (by kernel_rfl) (fun _ _ _ h => h) (Or.inl ⟨by rfl, ?y37a⟩) HSaw10.out ?r37a
  case y37a => (intro w' hSw; clear hSw; go_simp; try with_reducible rfl)
  simp only [List.getElem_toArray, List.getElem_cons_succ, List.getElem_cons_zero, Act.put, List.setIfInBounds_toArray, List.set_cons_zero, List.set_cons_succ]
  refine wpAnyH_done (by kernel_rfl) ?_ _
  change Exit.then _ _ Exit.normal _ _
  go_wp2
  have HS4 := Lib.hid (sx_drew HSaw10.out)
  have HB4 := Lib.hid HBaw10.out.drew
  refine region_calm ?_
  refine wp_region_any (by kernel_rfl) ?_
  change wpAny _ _ _ _ _ _ _ (World.drew _)
  refine wpAny_of_held (S := Sx [(b0, c0), (b1, c1)]) _ _ _ _ ?_
  refine wpAnyH_take (i := 0) (v := ?v0z) rfl (by kernel_rfl) (by kernel_rfl) (by kernel_rfl) (fun _ _ _ h => h) (Or.inl ⟨by rfl, ?y0z⟩) HS4.out ?r0z
  case y0z => (intro w' hSw; clear hSw; go_simp; try with_reducible rfl)
  simp only [List.getElem_toArray, List.getElem_cons_succ, List.getElem_cons_zero, Act.put, List.setIfInBounds_toArray, List.set_cons_zero, List.set_cons_succ]
  refine wpAnyH_take (i := 1) (v := ?v1z) rfl (by kernel_rfl) (by kernel_rfl) (by kernel_rfl) (fun _ _ _ h => h) (Or.inl ⟨by rfl, ?y1z⟩) HS4.out ?r1z
  case y1z => (intro w' hSw; clear hSw; go_simp; try with_reducible rfl)
  simp only [List.getElem_toArray, List.getElem_cons_succ, List.getElem_cons_zero, Act.put, List.setIfInBounds_toArray, List.set_cons_zero, List.set_cons_succ]
  refine wpAnyH_take (i := 2) (v := ?v2z) rfl (by kernel_rfl) (by kernel_rfl) (by kernel_rfl) (fun _ _ _ h => h) (Or.inl ⟨by rfl, ?y2z⟩) HS4.out ?r2z
  case y2z => (intro w' hSw; clear hSw; go_simp; try with_reducible rfl)
  simp only [List.getElem_toArray, List.getElem_cons_succ, List.getElem_cons_zero, Act.put, List.setIfInBounds_toArray, List.set_cons_zero, List.set_cons_succ]
  refine wpAnyH_take (i := 3) (v := ?v3z) rfl (by kernel_rfl) (by kernel_rfl) (by kernel_rfl) (fun _ _ _ h => h) (Or.inl ⟨by rfl, ?y3z⟩) HS4.out ?r3z
  case y3z => (intro w' hSw; clear hSw; go_simp; try with_reducible rfl)
  simp only [List.getElem_toArray, List.getElem_cons_succ, List.getElem_cons_zero, Act.put, List.setIfInBounds_toArray, List.set_cons_zero, List.set_cons_succ]
  refine wpAnyH_take (i := 4) (v := ?v4z) rfl (by kernel_rfl) (by kernel_rfl) (by kernel_rfl) (fun _ _ _ h => h) (Or.inl ⟨by rfl, ?y4z⟩) HS4.out ?r4z
  case y4z => (intro w' hSw; clear hSw; go_simp; try with_reducible rfl)
  simp only [List.getElem_toArray, List.getElem_cons_succ, List.getElem_cons_zero, Act.put, List.setIfInBounds_toArray, List.set_cons_zero, List.set_cons_succ]
  refine wpAnyH_take (i := 5) (v := .agg c0) rfl (by kernel_rfl) (by kernel_rfl) (by kernel_rfl) (fun _ _ _ h => h) (Or.inl ⟨by rfl, ?y5z⟩) HS4.out ?r5z
  case y5z => (intro w' hSw; exact exec_load (.tmp 2) (by rfl) b0 c0 (by rfl) (hSw (b0, c0) (by simp)) (poly_sized HP0.out))
  simp only [List.getElem_toArray, List.getElem_cons_succ, List.getElem_cons_zero, Act.put, List.setIfInBounds_toArray, List.set_cons_zero, List.set_cons_succ]
  refine wpAnyH_take (i := 6) (v := .agg c1) rfl (by kernel_rfl) (by kernel_rfl) (by kernel_rfl) (fun _ _ _ h => h) (Or.inl ⟨by rfl, ?y6z⟩) HS4.out ?r6z
  case y6z => (intro w' hSw; exact exec_load (.tmp 3) (by rfl) b1 c1 (by rfl) (hSw (b1, c1) (by simp)) (poly_sized HP1.out))
  simp only [List.getElem_toArray, List.getElem_cons_succ, List.getElem_cons_zero, Act.put, List.setIfInBounds_toArray, List.set_cons_zero, List.set_cons_succ]
  refine wpAnyH_take (i := 8) (v := .agg c0) rfl (by kernel_rfl) (by kernel_rfl) (by kernel_rfl) (fun _ _ _ h => h) (Or.inl ⟨by rfl, ?y8z⟩) HS4.out ?r8z
  case y8z => (intro w' hSw; exact exec_load (.tmp 2) (by rfl) b0 c0 (by rfl) (hSw (b0, c0) (by simp)) (poly_sized HP0.out))
  simp only [List.getElem_toArray, List.getElem_cons_succ, List.getElem_cons_zero, Act.put, List.setIfInBounds_toArray, List.set_cons_zero, List.set_cons_succ]
  refine wpAnyH_take (i := 9) (v := .agg c1) rfl (by kernel_rfl) (by kernel_rfl) (by kernel_rfl) (fun _ _ _ h => h) (Or.inl ⟨by rfl, ?y9z⟩) HS4.out ?r9z
  case y9z => (intro w' hSw; exact exec_load (.tmp 3) (by rfl) b1 c1 (by rfl) (hSw (b1, c1) (by simp)) (poly_sized HP1.out))
  simp only [List.getElem_toArray, List.getElem_cons_succ, List.getElem_cons_zero, Act.put, List.setIfInBounds_toArray, List.set_cons_zero, List.set_cons_succ]
  refine wpAnyH_ready (rs := [7]) (by kernel_rfl) (by simp) ?_
  refine AllReadyH.cons rfl (fun K hK => ?_) AllReadyH.nil
  simp only [List.getElem_toArray, List.getElem_cons_succ, List.getElem_cons_zero]
  go_simp
  refine (tim_any c0 c1 x0 x1 _ HP0.out HP1.out HF0.out HF1.out).mono ?_
  rintro e' zw1 ⟨d4, rfl, h, hB⟩
  have HSzw1 := Lib.hid (sx_below HS4.out (below_of_drew' hB))
  have HBzw1 := Lib.hid (HB4.out.trans ((below_of_drew' hB).mono HB4.out.size))
  clear hB
  have Hd4 := Lib.hid h
  clear h
  refine hK.out _ _ HSzw1.out (fun _ => ?_)
  clear hK K
  try simp only [List.getElem_toArray, List.getElem_cons_succ, List.getElem_cons_zero, Act.put, List.setIfInBounds_toArray, List.set_cons_zero, List.set_cons_succ]
  refine wpAnyH_ready (rs := [10]) (by kernel_rfl) (by simp) ?_
  refine AllReadyH.cons rfl (fun K hK => ?_) AllReadyH.nil
  simp only [List.getElem_toArray, List.getElem_cons_succ, List.getElem_cons_zero]
  go_simp
  refine (rtim_any c0 c1 x0 x1 _ HP0.out HP1.out HF0.out HF1.out).mono ?_
  rintro e' zw2 ⟨d4', rfl, h, hB⟩
  have HSzw2 := Lib.hid (sx_below HSzw1.out (below_of_drew' hB))
  have HBzw2 := Lib.hid (HBzw1.out.trans ((below_of_drew' hB).mono HBzw1.out.size))
  clear hB
  obtain rfl : d4 = d4' := Hd4.out.same h (Eqv.refl _)
  clear h
  refine hK.out _ _ HSzw2.out (fun _ => ?_)
  clear hK K
  try simp only [List.getElem_toArray, List.getElem_cons_succ, List.getElem_cons_zero, Act.put, List.setIfInBounds_toArray, List.set_cons_zero, List.set_cons_succ]
  refine wpAnyH_take (i := 11) (v := .bool true) rfl (by kernel_rfl) (by kernel_rfl) (by kernel_rfl) (fun _ _ _ h => h) (Or.inl ⟨by rfl, ?y11z⟩) HSzw2.out ?r11z
  case y11z => (intro w' hSw; exact exec_eq (.tmp 52) (.tmp 55) _ (by rfl) _ Hd4.out (by rfl) (by rfl))
  simp only [List.getElem_toArray, List.getElem_cons_succ, List.getElem_cons_zero, Act.put, List.setIfInBounds_toArray, List.set_cons_zero, List.set_cons_succ]
  refine wpAnyH_take (i := 12) (v := ?v12z) rfl (by kernel_rfl) (by kernel_rfl) (by kernel_rfl) (fun _ _ _ h => h) (Or.inl ⟨by rfl, ?y12z⟩) HSzw2.out ?r12z
  case y12z => (intro w' hSw; clear hSw; go_simp; try with_reducible rfl)
  simp only [List.getElem_toArray, List.getElem_cons_succ, List.getElem_cons_zero, Act.put, List.setIfInBounds_toArray, List.set_cons_zero, List.set_cons_succ]
  refine wpAnyH_take (i := 13) (v := ?v13z) rfl (by kernel_rfl) (by kernel_rfl) (by kernel_rfl) (fun _ _ _ h => h) (Or.inl ⟨by rfl, ?y13z⟩) HSzw2.out ?r13z
  case y13z => (intro w' hSw; clear hSw; go_simp; try with_reducible rfl)
  simp only [List.getElem_toArray, List.getElem_cons_succ, List.getElem_cons_zero, Act.put, List.setIfInBounds_toArray, List.set_cons_zero, List.set_cons_succ]
  refine wpAnyH_take (i := 14) (v := .agg c0) rfl (by kernel_rfl) (by kernel_rfl) (by kernel_rfl) (fun _ _ _ h => h) (Or.inl ⟨by rfl, ?y14z⟩) HSzw2.out ?r14z
  case y14z => (intro w' hSw; exact exec_load (.tmp 2) (by rfl) b0 c0 (by rfl) (hSw (b0, c0) (by simp)) (poly_sized HP0.out))
  simp only [List.getElem_toArray, List.getElem_cons_succ, List.getElem_cons_zero, Act.put, List.setIfInBounds_toArray, List.set_cons_zero, List.set_cons_succ]
  refine wpAnyH_take (i := 16) (v := .agg c0) rfl (by kernel_rfl) (by kernel_rfl) (by kernel_rfl) (fun _ _ _ h => h) (Or.inl ⟨by rfl, ?y16z⟩) HSzw2.out ?r16z
  case y16z => (intro w' hSw; exact exec_load (.tmp 2) (by rfl) b0 c0 (by rfl) (hSw (b0, c0) (by simp)) (poly_sized HP0.out))
  simp only [List.getElem_toArray, List.getElem_cons_succ, List.getElem_cons_zero, Act.put, List.setIfInBounds_toArray, List.set_cons_zero, List.set_cons_succ]
  refine wpAnyH_ready (rs := [15]) (by kernel_rfl) (by simp) ?_
  refine AllReadyH.cons rfl (fun K hK => ?_) AllReadyH.nil
  simp only [List.getElem_toArray, List.getElem_cons_succ, List.getElem_cons_zero]
  go_simp
  refine (ntt_any c0 x0 _ HP0.out HF0.out).mono ?_
  rintro e' zw3 ⟨d5, rfl, h, hB⟩
  have HSzw3 := Lib.hid (sx_below HSzw2.out (below_of_drew' hB))
  have HBzw3 := Lib.hid (HBzw2.out.trans ((below_of_drew' hB).mono HBzw2.out.size))
  clear hB
  have Hd5 := Lib.hid h
  clear h
  refine hK.out _ _ HSzw3.out (fun _ => ?_)
  clear hK K
  try simp only [List.getElem_toArray, List.getElem_cons_succ, List.getElem_cons_zero, Act.put, List.setIfInBounds_toArray, List.set_cons_zero, List.set_cons_succ]
  refine wpAnyH_ready (rs := [17]) (by kernel_rfl) (by simp) ?_
  refine AllReadyH.cons rfl (fun K hK => ?_) AllReadyH.nil
  simp only [List.getElem_toArray, List.getElem_cons_succ, List.getElem_cons_zero]
  go_simp
  refine (rntt_any c0 x0 _ HP0.out HF0.out).mono ?_
  rintro e' zw4 ⟨d5', rfl, h, hB⟩
  have HSzw4 := Lib.hid (sx_below HSzw3.out (below_of_drew' hB))
  have HBzw4 := Lib.hid (HBzw3.out.trans ((below_of_drew' hB).mono HBzw3.out.size))
  clear hB
  obtain rfl : d5 = d5' := Hd5.out.same h (Eqv.refl _)
  clear h
  refine hK.out _ _ HSzw4.out (fun _ => ?_)
  clear hK K
  try simp only [List.getElem_toArray, List.getElem_cons_succ, List.getElem_cons_zero, Act.put, List.setIfInBounds_toArray, List.set_cons_zero, List.set_cons_succ]
  refine wpAnyH_take (i := 18) (v := .bool true) rfl (by kernel_rfl) (by kernel_rfl) (by kernel_rfl) (fun _ _ _ h => h) (Or.inl ⟨by rfl, ?y18z⟩) HSzw4.out ?r18z
  case y18z => (intro w' hSw; exact exec_eq (.tmp 60) (.tmp 62) _ (by rfl) _ Hd5.out (by rfl) (by rfl))
  simp only [List.getElem_toArray, List.getElem_cons_succ, List.getElem_cons_zero, Act.put, List.setIfInBounds_toArray, List.set_cons_zero, List.set_cons_succ]
  refine wpAnyH_take (i := 19) (v := ?v19z) rfl (by kernel_rfl) (by kernel_rfl) (by kernel_rfl) (fun _ _ _ h => h) (Or.inl ⟨by rfl, ?y19z⟩) HSzw4.out ?r19z
  case y19z => (intro w' hSw; clear hSw; go_simp; try with_reducible rfl)
  simp only [List.getElem_toArray, List.getElem_cons_succ, List.getElem_cons_zero, Act.put, List.setIfInBounds_toArray, List.set_cons_zero, List.set_cons_succ]
  refine wpAnyH_take (i := 20) (v := ?v20z) rfl (by kernel_rfl) (by kernel_rfl) (by kernel_rfl) (fun _ _ _ h => h) (Or.inl ⟨by rfl, ?y20z⟩) HSzw4.out ?r20z
  case y20z => (intro w' hSw; clear hSw; go_simp; try with_reducible rfl)
  simp only [List.getElem_toArray, List.getElem_cons_succ, List.getElem_cons_zero, Act.put, List.setIfInBounds_toArray, List.set_cons_zero, List.set_cons_succ]
  refine wpAnyH_take (i := 21) (v := .agg c0) rfl (by kernel_rfl) (by kernel_rfl) (by kernel_rfl) (fun _ _ _ h => h) (Or.inl ⟨by rfl, ?y21z⟩) HSzw4.out ?r21z
  case y21z => (intro w' hSw; exact exec_load (.tmp 2) (by rfl) b0 c0 (by rfl) (hSw (b0, c0) (by simp)) (poly_sized HP0.out))
  simp only [List.getElem_toArray, List.getElem_cons_succ, List.getElem_cons_zero, Act.put, List.setIfInBounds_toArray, List.set_cons_zero, List.set_cons_succ]
  refine wpAnyH_take (i := 23) (v := .agg c0) rfl (by kernel_rfl) (by kernel_rfl) (by kernel_rfl) (fun _ _ _ h => h) (Or.inl ⟨by rfl, ?y23z⟩) HSzw4.out ?r23z
  case y23z => (intro w' hSw; exact exec_load (.tmp 2) (by rfl) b0 c0 (by rfl) (hSw (b0, c0) (by simp)) (poly_sized HP0.out))
  simp only [List.getElem_toArray, List.getElem_cons_succ, List.getElem_cons_zero, Act.put, List.setIfInBounds_toArray, List.set_cons_zero, List.set_cons_succ]
  refine wpAnyH_ready (rs := [22]) (by kernel_rfl) (by simp) ?_
  refine AllReadyH.cons rfl (fun K hK => ?_) AllReadyH.nil
  simp only [List.getElem_toArray, List.getElem_cons_succ, List.getElem_cons_zero]
  go_simp
  refine (inv_any c0 x0 _ HP0.out HF0.out).mono ?_
  rintro e' zw5 ⟨d6, rfl, h, hB⟩
  have HSzw5 := Lib.hid (sx_below HSzw4.out (below_of_drew' hB))
  have HBzw5 := Lib.hid (HBzw4.out.trans ((below_of_drew' hB).mono HBzw4.out.size))
  clear hB
  have Hd6 := Lib.hid h
  clear h
  refine hK.out _ _ HSzw5.out (fun _ => ?_)
  clear hK K
  try simp only [List.getElem_toArray, List.getElem_cons_succ, List.getElem_cons_zero, Act.put, List.setIfInBounds_toArray, List.set_cons_zero, List.set_cons_succ]
  refine wpAnyH_ready (rs := [24]) (by kernel_rfl) (by simp) ?_
  refine AllReadyH.cons rfl (fun K hK => ?_) AllReadyH.nil
  simp only [List.getElem_toArray, List.getElem_cons_succ, List.getElem_cons_zero]
  go_simp
  refine (rinv_any c0 x0 _ HP0.out HF0.out).mono ?_
  rintro e' zw6 ⟨d6', rfl, h, hB⟩
  have HSzw6 := Lib.hid (sx_below HSzw5.out (below_of_drew' hB))
  have HBzw6 := Lib.hid (HBzw5.out.trans ((below_of_drew' hB).mono HBzw5.out.size))
  clear hB
  obtain rfl : d6 = d6' := Hd6.out.same h (Eqv.refl _)
  clear h
  refine hK.out _ _ HSzw6.out (fun _ => ?_)
  clear hK K
  try simp only [List.getElem_toArray, List.getElem_cons_succ, List.getElem_cons_zero, Act.put, List.setIfInBounds_toArray, List.set_cons_zero, List.set_cons_succ]
  refine wpAnyH_take (i := 25) (v := .bool true) rfl (by kernel_rfl) (by kernel_rfl) (by kernel_rfl) (fun _ _ _ h => h) (Or.inl ⟨by rfl, ?y25z⟩) HSzw6.out ?r25z
  case y25z => (intro w' hSw; exact exec_eq (.tmp 67) (.tmp 69) _ (by rfl) _ Hd6.out (by rfl) (by rfl))
  simp only [List.getElem_toArray, List.getElem_cons_succ, List.getElem_cons_zero, Act.put, List.setIfInBounds_toArray, List.set_cons_zero, List.set_cons_succ]
  refine wpAnyH_take (i := 26) (v := ?v26z) rfl (by kernel_rfl) (by kernel_rfl) (by kernel_rfl) (fun _ _ _ h => h) (Or.inl ⟨by rfl, ?y26z⟩) HSzw6.out ?r26z
  case y26z => (intro w' hSw; clear hSw; go_simp; try with_reducible rfl)
  simp only [List.getElem_toArray, List.getElem_cons_succ, List.getElem_cons_zero, Act.put, List.setIfInBounds_toArray, List.set_cons_zero, List.set_cons_succ]
  refine wpAnyH_take (i := 27) (v := ?v27z) rfl (by kernel_rfl) (by kernel_rfl) (by kernel_rfl) (fun _ _ _ h => h) (Or.inl ⟨by rfl, ?y27z⟩) HSzw6.out ?r27z
  case y27z => (intro w' hSw; clear hSw; go_simp; try with_reducible rfl)
  simp only [List.getElem_toArray, List.getElem_cons_succ, List.getElem_cons_zero, Act.put, List.setIfInBounds_toArray, List.set_cons_zero, List.set_cons_succ]
  refine wpAnyH_done (by kernel_rfl) ?_ _
  change Exit.then _ _ Exit.normal _ _
  go_wp2
  go_ret
  exact ⟨rfl, HBzw6.out⟩
end Go.Proofs.Ytaihlmedeebimaa.Lg
