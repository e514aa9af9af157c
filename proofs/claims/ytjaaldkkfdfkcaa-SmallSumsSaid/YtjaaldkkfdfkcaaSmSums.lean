/- Walks: SmallSums. Written by tools/mk_smsums.py. -/
import Derived.Test.YtjaaldkkfdfkcaaSmBack
namespace Go.Proofs.Ytjaaldkkfdfkcaa.Sm
open Go.RowKit
set_option linter.all false

theorem sx_4 {a b c d : Nat × Array Value} {w : World} (h0 : w.heap[a.1]? = some (.cells a.2 23 (0, 0))) (h1 : w.heap[b.1]? = some (.cells b.2 23 (0, 0))) (h2 : w.heap[c.1]? = some (.cells c.2 23 (0, 0))) (h3 : w.heap[d.1]? = some (.cells d.2 23 (0, 0))) : Sx [a, b, c, d] w := fun x hx => by
  simp only [List.mem_cons, List.not_mem_nil, or_false] at hx
  rcases hx with rfl | rfl | rfl | rfl
  · exact h0
  · exact h1
  · exact h2
  · exact h3

theorem mi_pl (f g : Nat → F) : mi (pl f g) g = f := by funext i; simp only [mi, pl]; grind

set_option maxHeartbeats 8000000 in
set_option maxRecDepth 100000 in
theorem sums_walk (c0 c1 c2 : Array Value) (x0 x1 x2 : Nat → Int) (w : World) (hP0 : IsP c0 x0) (hP1 : IsP c1 x1) (hP2 : IsP c2 x2) (hF0 : Fits x0) (hF1 : Fits x1) (hF2 : Fits x2) :
    Calls Try.prog 6 #[.agg c0, .agg c1, .agg c2] w fun e w' => e = .returned (.bool true) ∧ Below w.heap.size w w' := by
  have HP0 := Lib.hid hP0; have HF0 := Lib.hid hF0; clear hP0 hF0
  have HP1 := Lib.hid hP1; have HF1 := Lib.hid hF1; clear hP1 hF1
  have HP2 := Lib.hid hP2; have HF2 := Lib.hid hF2; clear hP2 hF2
  obtain ⟨Z, hz, hZ⟩ := zero_poly
  have HZ := Lib.hid hZ
  clear hZ
  have e1 : (w.alloc (.cells c0 23)).heap.size = w.heap.size + 1 := by simp
  have e2 : ((w.alloc (.cells c0 23)).alloc (.cells c1 23)).heap.size = w.heap.size + 1 + 1 := by simp
  have g0 := heap_alloc_last w (.cells c0 23)
  have g0 := (Below.heap_alloc (w.alloc (.cells c0 23)) (.cells c1 23) (w.heap.size) (by rw [e1]; omega)).trans g0
  have g0 := (Below.heap_alloc ((w.alloc (.cells c0 23)).alloc (.cells c1 23)) (.cells c2 23) (w.heap.size) (by rw [e2]; omega)).trans g0
  have HA0 := Lib.hid g0; clear g0
  have g1 := heap_alloc_last (w.alloc (.cells c0 23)) (.cells c1 23)
  rw [e1] at g1
  have g1 := (Below.heap_alloc ((w.alloc (.cells c0 23)).alloc (.cells c1 23)) (.cells c2 23) (w.heap.size + 1) (by rw [e2]; omega)).trans g1
  have HA1 := Lib.hid g1; clear g1
  have g2 := heap_alloc_last ((w.alloc (.cells c0 23)).alloc (.cells c1 23)) (.cells c2 23)
  rw [e2] at g2
  have HA2 := Lib.hid g2; clear g2
  have HB0 := Lib.hid ((((Below.refl w.heap.size w).alloc (Nat.le_refl _) (.cells c0 23)).alloc (by simp <;> omega) (.cells c1 23)).alloc (by simp <;> omega) (.cells c2 23))
  clear e1 e2
  go_enter Try.func6, Try.ntmps6
  go_wp2_with fail
  refine (head_any _).mono ?_
  rintro e' w1 ⟨rfl, hB⟩
  have hs1 : w.heap.size + 3 ≤ w1.heap.size := by have := hB.size; simpa using this
  have HA0 := Lib.hid ((hB.block (w.heap.size) (by simp <;> omega)).trans HA0.out)
  have HA1 := Lib.hid ((hB.block (w.heap.size + 1) (by simp <;> omega)).trans HA1.out)
  have HA2 := Lib.hid ((hB.block (w.heap.size + 1 + 1) (by simp <;> omega)).trans HA2.out)
  have HB1 := Lib.hid (HB0.out.trans (hB.mono HB0.out.size))
  clear hB HB0
  obtain ⟨b0, hb0⟩ : ∃ b, w.heap.size = b := ⟨_, rfl⟩
  obtain ⟨b1, hb1⟩ : ∃ b, w.heap.size + 1 = b := ⟨_, rfl⟩
  obtain ⟨b2, hb2⟩ : ∃ b, w.heap.size + 1 + 1 = b := ⟨_, rfl⟩
  rw [hb0] at HA0
  rw [hb1] at HA1
  rw [hb2] at HA2
  have hl0 : b0 < w1.heap.size := by omega
  have hl1 : b1 < w1.heap.size := by omega
  have hl2 : b2 < w1.heap.size := by omega
  rw [hb2, hb1, hb0]
  clear hb2 hb1 hb0 hs1
  go_wp2_with (first | (refine wpList_load_row rfl 23 (.tmp 3) rfl b0 rfl 23 c0 (0, 0) _ HA0.out Try.underlying23 rfl (poly_sized HP0.out) ?_) | (refine wpList_load_row rfl 23 (.tmp 4) rfl b1 rfl 23 c1 (0, 0) _ HA1.out Try.underlying23 rfl (poly_sized HP1.out) ?_))
  refine (add_any c0 c1 x0 x1 _ HP0.out HP1.out HF0.out HF1.out).mono ?_
  rintro e' w2 ⟨ss, rfl, hS, hB⟩
  have HSS := Lib.hid hS
  have HA0 := Lib.hid ((hB.block b0 hl0).trans HA0.out); have HA1 := Lib.hid ((hB.block b1 hl1).trans HA1.out); have HA2 := Lib.hid ((hB.block b2 hl2).trans HA2.out)
  have HB2 := Lib.hid (HB1.out.trans (hB.mono HB1.out.size))
  have hs2 := hB.size
  clear hB hS HB1
  go_wp2_with (refine wpList_store_row rfl 23 (.tmp 8) (.tmp 12) rfl w2.heap.size ss rfl rfl 23 Z (heap_alloc_last w2 _) (poly_sized HSS.out) (by rw [HZ.out.1, HSS.out.1]) HSS.out.cells ?_)
  rw [World.setRow_alloc_new]
  have HB3 := Lib.hid (HB2.out.alloc HB2.out.size (.cells ss 23))
  have HM := Lib.hid (heap_alloc_last w2 (.cells ss 23))
  have HA0 := Lib.hid ((Below.heap_alloc w2 (.cells ss 23) b0 (by omega)).trans HA0.out); have HA1 := Lib.hid ((Below.heap_alloc w2 (.cells ss 23) b1 (by omega)).trans HA1.out); have HA2 := Lib.hid ((Below.heap_alloc w2 (.cells ss 23) b2 (by omega)).trans HA2.out)
  obtain ⟨b3, hb3⟩ : ∃ b, w2.heap.size = b := ⟨_, rfl⟩
  rw [hb3] at HM
  have HS3 : Hid (Sx [(b0, c0), (b1, c1), (b2, c2), (b3, ss)] (w2.alloc (.cells ss 23)).drew) := Lib.hid (sx_4 HA0.out HA1.out HA2.out HM.out)
  have HB3 := Lib.hid HB3.out.drew
  change Code.wp _ _ _ _ (w2.alloc (.cells ss 23))
  generalize w2.alloc (.cells ss 23) = w3 at *
  rw [hb3]
  clear hb3 hl0 hl1 hl2 hs2 HA0 HA1 HA2 HM hz HZ HB2
  refine region_calm ?_
  refine wp_region_any (by kernel_rfl) ?_
  change wpAny _ _ _ _ _ _ _ (World.drew _)
  refine wpAny_of_held (S := Sx [(b0, c0), (b1, c1), (b2, c2), (b3, ss)]) _ _ _ _ ?_
  refine wpAnyH_take (i := 0) (v := .agg ss) rfl (by kernel_rfl) (by kernel_rfl) (by kernel_rfl) (fun _ _ _ h => h) (Or.inl ⟨by rfl, ?y0a⟩) HS3.out ?r0a
  case y0a => (intro w' hSw; exact exec_load (.tmp 8) (by rfl) b3 ss (by rfl) (hSw (b3, ss) (by simp)) (poly_sized HSS.out))
  simp only [List.getElem_toArray, List.getElem_cons_succ, List.getElem_cons_zero, Act.put, List.setIfInBounds_toArray, List.set_cons_zero, List.set_cons_succ]
  refine wpAnyH_take (i := 2) (v := .agg c0) rfl (by kernel_rfl) (by kernel_rfl) (by kernel_rfl) (fun _ _ _ h => h) (Or.inl ⟨by rfl, ?y2a⟩) HS3.out ?r2a
  case y2a => (intro w' hSw; exact exec_load (.tmp 3) (by rfl) b0 c0 (by rfl) (hSw (b0, c0) (by simp)) (poly_sized HP0.out))
  simp only [List.getElem_toArray, List.getElem_cons_succ, List.getElem_cons_zero, Act.put, List.setIfInBounds_toArray, List.set_cons_zero, List.set_cons_succ]
  refine wpAnyH_take (i := 4) (v := .agg c1) rfl (by kernel_rfl) (by kernel_rfl) (by kernel_rfl) (fun _ _ _ h => h) (Or.inl ⟨by rfl, ?y4a⟩) HS3.out ?r4a
  case y4a => (intro w' hSw; exact exec_load (.tmp 4) (by rfl) b1 c1 (by rfl) (hSw (b1, c1) (by simp)) (poly_sized HP1.out))
  simp only [List.getElem_toArray, List.getElem_cons_succ, List.getElem_cons_zero, Act.put, List.setIfInBounds_toArray, List.set_cons_zero, List.set_cons_succ]
  refine wpAnyH_ready (rs := [1]) (by kernel_rfl) (by simp) ?_
  refine AllReadyH.cons rfl (fun K hK => ?_) AllReadyH.nil
  simp only [List.getElem_toArray, List.getElem_cons_succ, List.getElem_cons_zero]
  go_simp
  refine (ntt_any ss _ _ HSS.out (fits_up _)).mono ?_
  rintro e' aw1 ⟨d1, rfl, h, hB⟩
  have HSaw1 := Lib.hid (sx_below HS3.out (below_of_drew' hB))
  have HBaw1 := Lib.hid (HB3.out.trans ((below_of_drew' hB).mono HB3.out.size))
  clear hB
  rw [redp_up, ntt_pl] at h
  have H1 := Lib.hid h
  clear h
  refine hK.out _ _ HSaw1.out (fun _ => ?_)
  clear hK K
  try simp only [List.getElem_toArray, List.getElem_cons_succ, List.getElem_cons_zero, Act.put, List.setIfInBounds_toArray, List.set_cons_zero, List.set_cons_succ]
  refine wpAnyH_ready (rs := [3]) (by kernel_rfl) (by simp) ?_
  refine AllReadyH.cons rfl (fun K hK => ?_) AllReadyH.nil
  simp only [List.getElem_toArray, List.getElem_cons_succ, List.getElem_cons_zero]
  go_simp
  refine (ntt_any c0 x0 _ HP0.out HF0.out).mono ?_
  rintro e' aw2 ⟨d2, rfl, h, hB⟩
  have HSaw2 := Lib.hid (sx_below HSaw1.out (below_of_drew' hB))
  have HBaw2 := Lib.hid (HBaw1.out.trans ((below_of_drew' hB).mono HBaw1.out.size))
  clear hB
  have H2 := Lib.hid h
  clear h
  refine hK.out _ _ HSaw2.out (fun _ => ?_)
  clear hK K
  try simp only [List.getElem_toArray, List.getElem_cons_succ, List.getElem_cons_zero, Act.put, List.setIfInBounds_toArray, List.set_cons_zero, List.set_cons_succ]
  refine wpAnyH_ready (rs := [5]) (by kernel_rfl) (by simp) ?_
  refine AllReadyH.cons rfl (fun K hK => ?_) AllReadyH.nil
  simp only [List.getElem_toArray, List.getElem_cons_succ, List.getElem_cons_zero]
  go_simp
  refine (ntt_any c1 x1 _ HP1.out HF1.out).mono ?_
  rintro e' aw3 ⟨d3, rfl, h, hB⟩
  have HSaw3 := Lib.hid (sx_below HSaw2.out (below_of_drew' hB))
  have HBaw3 := Lib.hid (HBaw2.out.trans ((below_of_drew' hB).mono HBaw2.out.size))
  clear hB
  have H3 := Lib.hid h
  clear h
  refine hK.out _ _ HSaw3.out (fun _ => ?_)
  clear hK K
  try simp only [List.getElem_toArray, List.getElem_cons_succ, List.getElem_cons_zero, Act.put, List.setIfInBounds_toArray, List.set_cons_zero, List.set_cons_succ]
  refine wpAnyH_ready (rs := [6]) (by kernel_rfl) (by simp) ?_
  refine AllReadyH.cons rfl (fun K hK => ?_) AllReadyH.nil
  simp only [List.getElem_toArray, List.getElem_cons_succ, List.getElem_cons_zero]
  go_simp
  refine (add_any d2 d3 _ _ _ H2.out H3.out (fits_up _) (fits_up _)).mono ?_
  rintro e' aw4 ⟨d4, rfl, h, hB⟩
  have HSaw4 := Lib.hid (sx_below HSaw3.out (below_of_drew' hB))
  have HBaw4 := Lib.hid (HBaw3.out.trans ((below_of_drew' hB).mono HBaw3.out.size))
  clear hB
  rw [redp_up, redp_up] at h
  obtain rfl : d1 = d4 := H1.out.same h (Eqv.refl _)
  clear h
  refine hK.out _ _ HSaw4.out (fun _ => ?_)
  clear hK K
  try simp only [List.getElem_toArray, List.getElem_cons_succ, List.getElem_cons_zero, Act.put, List.setIfInBounds_toArray, List.set_cons_zero, List.set_cons_succ]
  refine wpAnyH_take (i := 7) (v := .bool false) rfl (by kernel_rfl) (by kernel_rfl) (by kernel_rfl) (fun _ _ _ h => h) (Or.inl ⟨by rfl, ?y7a⟩) HSaw4.out ?r7a
  case y7a => (intro w' hSw; exact exec_neq (.tmp 14) (.tmp 19) _ (by rfl) _ H1.out (by rfl) (by rfl))
  simp only [List.getElem_toArray, List.getElem_cons_succ, List.getElem_cons_zero, Act.put, List.setIfInBounds_toArray, List.set_cons_zero, List.set_cons_succ]
  refine wpAnyH_take (i := 8) (v := ?v8a) rfl (by kernel_rfl) (by kernel_rfl) (by kernel_rfl) (fun _ _ _ h => h) (Or.inl ⟨by rfl, ?y8a⟩) HSaw4.out ?r8a
  case y8a => (intro w' hSw; clear hSw; go_simp; try with_reducible rfl)
  simp only [List.getElem_toArray, List.getElem_cons_succ, List.getElem_cons_zero, Act.put, List.setIfInBounds_toArray, List.set_cons_zero, List.set_cons_succ]
  refine wpAnyH_take (i := 9) (v := .agg ss) rfl (by kernel_rfl) (by kernel_rfl) (by kernel_rfl) (fun _ _ _ h => h) (Or.inl ⟨by rfl, ?y9a⟩) HSaw4.out ?r9a
  case y9a => (intro w' hSw; exact exec_load (.tmp 8) (by rfl) b3 ss (by rfl) (hSw (b3, ss) (by simp)) (poly_sized HSS.out))
  simp only [List.getElem_toArray, List.getElem_cons_succ, List.getElem_cons_zero, Act.put, List.setIfInBounds_toArray, List.set_cons_zero, List.set_cons_succ]
  refine wpAnyH_take (i := 10) (v := .agg c1) rfl (by kernel_rfl) (by kernel_rfl) (by kernel_rfl) (fun _ _ _ h => h) (Or.inl ⟨by rfl, ?y10a⟩) HSaw4.out ?r10a
  case y10a => (intro w' hSw; exact exec_load (.tmp 4) (by rfl) b1 c1 (by rfl) (hSw (b1, c1) (by simp)) (poly_sized HP1.out))
  simp only [List.getElem_toArray, List.getElem_cons_succ, List.getElem_cons_zero, Act.put, List.setIfInBounds_toArray, List.set_cons_zero, List.set_cons_succ]
  refine wpAnyH_take (i := 12) (v := .agg c0) rfl (by kernel_rfl) (by kernel_rfl) (by kernel_rfl) (fun _ _ _ h => h) (Or.inl ⟨by rfl, ?y12a⟩) HSaw4.out ?r12a
  case y12a => (intro w' hSw; exact exec_load (.tmp 3) (by rfl) b0 c0 (by rfl) (hSw (b0, c0) (by simp)) (poly_sized HP0.out))
  simp only [List.getElem_toArray, List.getElem_cons_succ, List.getElem_cons_zero, Act.put, List.setIfInBounds_toArray, List.set_cons_zero, List.set_cons_succ]
  refine wpAnyH_ready (rs := [11]) (by kernel_rfl) (by simp) ?_
  refine AllReadyH.cons rfl (fun K hK => ?_) AllReadyH.nil
  simp only [List.getElem_toArray, List.getElem_cons_succ, List.getElem_cons_zero]
  go_simp
  refine (sub_any ss c1 _ x1 _ HSS.out HP1.out (fits_up _) HF1.out).mono ?_
  rintro e' aw5 ⟨d5, rfl, h, hB⟩
  have HSaw5 := Lib.hid (sx_below HSaw4.out (below_of_drew' hB))
  have HBaw5 := Lib.hid (HBaw4.out.trans ((below_of_drew' hB).mono HBaw4.out.size))
  clear hB
  rw [redp_up, mi_pl] at h
  have H5 := Lib.hid h
  clear h
  refine hK.out _ _ HSaw5.out (fun _ => ?_)
  clear hK K
  try simp only [List.getElem_toArray, List.getElem_cons_succ, List.getElem_cons_zero, Act.put, List.setIfInBounds_toArray, List.set_cons_zero, List.set_cons_succ]
  refine wpAnyH_ready (rs := [13]) (by kernel_rfl) (by simp) ?_
  refine AllReadyH.cons rfl (fun K hK => ?_) AllReadyH.nil
  simp only [List.getElem_toArray, List.getElem_cons_succ, List.getElem_cons_zero]
  go_simp
  refine (mod_any c0 x0 _ HP0.out HF0.out).mono ?_
  rintro e' aw6 ⟨d6, rfl, h, hB⟩
  have HSaw6 := Lib.hid (sx_below HSaw5.out (below_of_drew' hB))
  have HBaw6 := Lib.hid (HBaw5.out.trans ((below_of_drew' hB).mono HBaw5.out.size))
  clear hB
  obtain rfl : d5 = d6 := H5.out.same h (Eqv.refl _)
  clear h
  refine hK.out _ _ HSaw6.out (fun _ => ?_)
  clear hK K
  try simp only [List.getElem_toArray, List.getElem_cons_succ, List.getElem_cons_zero, Act.put, List.setIfInBounds_toArray, List.set_cons_zero, List.set_cons_succ]
  refine wpAnyH_take (i := 14) (v := .bool false) rfl (by kernel_rfl) (by kernel_rfl) (by kernel_rfl) (fun _ _ _ h => h) (Or.inl ⟨by rfl, ?y14a⟩) HSaw6.out ?r14a
  case y14a => (intro w' hSw; exact exec_neq (.tmp 24) (.tmp 26) _ (by rfl) _ H5.out (by rfl) (by rfl))
  simp only [List.getElem_toArray, List.getElem_cons_succ, List.getElem_cons_zero, Act.put, List.setIfInBounds_toArray, List.set_cons_zero, List.set_cons_succ]
  refine wpAnyH_take (i := 15) (v := ?v15a) rfl (by kernel_rfl) (by kernel_rfl) (by kernel_rfl) (fun _ _ _ h => h) (Or.inl ⟨by rfl, ?y15a⟩) HSaw6.out ?r15a
  case y15a => (intro w' hSw; clear hSw; go_simp; try with_reducible rfl)
  simp only [List.getElem_toArray, List.getElem_cons_succ, List.getElem_cons_zero, Act.put, List.setIfInBounds_toArray, List.set_cons_zero, List.set_cons_succ]
  refine wpAnyH_done (by kernel_rfl) ?_ _
  change Exit.then _ _ Exit.normal _ _
  go_wp2
  have HS4 := Lib.hid (sx_drew HSaw6.out)
  have HB4 := Lib.hid HBaw6.out.drew
  clear H1 H2 H3 H5
  refine region_calm ?_
  refine wp_region_any (by kernel_rfl) ?_
  change wpAny _ _ _ _ _ _ _ (World.drew _)
  refine wpAny_of_held (S := Sx [(b0, c0), (b1, c1), (b2, c2), (b3, ss)]) _ _ _ _ ?_
  refine wpAnyH_take (i := 0) (v := ?v0z) rfl (by kernel_rfl) (by kernel_rfl) (by kernel_rfl) (fun _ _ _ h => h) (Or.inl ⟨by rfl, ?y0z⟩) HS4.out ?r0z
  case y0z => (intro w' hSw; clear hSw; go_simp; try with_reducible rfl)
  simp only [List.getElem_toArray, List.getElem_cons_succ, List.getElem_cons_zero, Act.put, List.setIfInBounds_toArray, List.set_cons_zero, List.set_cons_succ]
  refine wpAnyH_take (i := 1) (v := ?v1z) rfl (by kernel_rfl) (by kernel_rfl) (by kernel_rfl) (fun _ _ _ h => h) (Or.inl ⟨by rfl, ?y1z⟩) HS4.out ?r1z
  case y1z => (intro w' hSw; clear hSw; go_simp; try with_reducible rfl)
  simp only [List.getElem_toArray, List.getElem_cons_succ, List.getElem_cons_zero, Act.put, List.setIfInBounds_toArray, List.set_cons_zero, List.set_cons_succ]
  refine wpAnyH_take (i := 2) (v := .agg c2) rfl (by kernel_rfl) (by kernel_rfl) (by kernel_rfl) (fun _ _ _ h => h) (Or.inl ⟨by rfl, ?y2z⟩) HS4.out ?r2z
  case y2z => (intro w' hSw; exact exec_load (.tmp 5) (by rfl) b2 c2 (by rfl) (hSw (b2, c2) (by simp)) (poly_sized HP2.out))
  simp only [List.getElem_toArray, List.getElem_cons_succ, List.getElem_cons_zero, Act.put, List.setIfInBounds_toArray, List.set_cons_zero, List.set_cons_succ]
  refine wpAnyH_take (i := 3) (v := .agg ss) rfl (by kernel_rfl) (by kernel_rfl) (by kernel_rfl) (fun _ _ _ h => h) (Or.inl ⟨by rfl, ?y3z⟩) HS4.out ?r3z
  case y3z => (intro w' hSw; exact exec_load (.tmp 8) (by rfl) b3 ss (by rfl) (hSw (b3, ss) (by simp)) (poly_sized HSS.out))
  simp only [List.getElem_toArray, List.getElem_cons_succ, List.getElem_cons_zero, Act.put, List.setIfInBounds_toArray, List.set_cons_zero, List.set_cons_succ]
  refine wpAnyH_take (i := 5) (v := .agg c2) rfl (by kernel_rfl) (by kernel_rfl) (by kernel_rfl) (fun _ _ _ h => h) (Or.inl ⟨by rfl, ?y5z⟩) HS4.out ?r5z
  case y5z => (intro w' hSw; exact exec_load (.tmp 5) (by rfl) b2 c2 (by rfl) (hSw (b2, c2) (by simp)) (poly_sized HP2.out))
  simp only [List.getElem_toArray, List.getElem_cons_succ, List.getElem_cons_zero, Act.put, List.setIfInBounds_toArray, List.set_cons_zero, List.set_cons_succ]
  refine wpAnyH_take (i := 6) (v := .agg c0) rfl (by kernel_rfl) (by kernel_rfl) (by kernel_rfl) (fun _ _ _ h => h) (Or.inl ⟨by rfl, ?y6z⟩) HS4.out ?r6z
  case y6z => (intro w' hSw; exact exec_load (.tmp 3) (by rfl) b0 c0 (by rfl) (hSw (b0, c0) (by simp)) (poly_sized HP0.out))
  simp only [List.getElem_toArray, List.getElem_cons_succ, List.getElem_cons_zero, Act.put, List.setIfInBounds_toArray, List.set_cons_zero, List.set_cons_succ]
  refine wpAnyH_take (i := 8) (v := .agg c2) rfl (by kernel_rfl) (by kernel_rfl) (by kernel_rfl) (fun _ _ _ h => h) (Or.inl ⟨by rfl, ?y8z⟩) HS4.out ?r8z
  case y8z => (intro w' hSw; exact exec_load (.tmp 5) (by rfl) b2 c2 (by rfl) (hSw (b2, c2) (by simp)) (poly_sized HP2.out))
  simp only [List.getElem_toArray, List.getElem_cons_succ, List.getElem_cons_zero, Act.put, List.setIfInBounds_toArray, List.set_cons_zero, List.set_cons_succ]
  refine wpAnyH_take (i := 9) (v := .agg c1) rfl (by kernel_rfl) (by kernel_rfl) (by kernel_rfl) (fun _ _ _ h => h) (Or.inl ⟨by rfl, ?y9z⟩) HS4.out ?r9z
  case y9z => (intro w' hSw; exact exec_load (.tmp 4) (by rfl) b1 c1 (by rfl) (hSw (b1, c1) (by simp)) (poly_sized HP1.out))
  simp only [List.getElem_toArray, List.getElem_cons_succ, List.getElem_cons_zero, Act.put, List.setIfInBounds_toArray, List.set_cons_zero, List.set_cons_succ]
  refine wpAnyH_ready (rs := [4]) (by kernel_rfl) (by simp) ?_
  refine AllReadyH.cons rfl (fun K hK => ?_) AllReadyH.nil
  simp only [List.getElem_toArray, List.getElem_cons_succ, List.getElem_cons_zero]
  go_simp
  refine (tim_any c2 ss x2 _ _ HP2.out HSS.out HF2.out (fits_up _)).mono ?_
  rintro e' zw1 ⟨d1, rfl, h, hB⟩
  have HSzw1 := Lib.hid (sx_below HS4.out (below_of_drew' hB))
  have HBzw1 := Lib.hid (HB4.out.trans ((below_of_drew' hB).mono HB4.out.size))
  clear hB
  rw [redp_up, tim_pl] at h
  have H1 := Lib.hid h
  clear h
  refine hK.out _ _ HSzw1.out (fun _ => ?_)
  clear hK K
  try simp only [List.getElem_toArray, List.getElem_cons_succ, List.getElem_cons_zero, Act.put, List.setIfInBounds_toArray, List.set_cons_zero, List.set_cons_succ]
  refine wpAnyH_ready (rs := [7]) (by kernel_rfl) (by simp) ?_
  refine AllReadyH.cons rfl (fun K hK => ?_) AllReadyH.nil
  simp only [List.getElem_toArray, List.getElem_cons_succ, List.getElem_cons_zero]
  go_simp
  refine (tim_any c2 c0 x2 x0 _ HP2.out HP0.out HF2.out HF0.out).mono ?_
  rintro e' zw2 ⟨d2, rfl, h, hB⟩
  have HSzw2 := Lib.hid (sx_below HSzw1.out (below_of_drew' hB))
  have HBzw2 := Lib.hid (HBzw1.out.trans ((below_of_drew' hB).mono HBzw1.out.size))
  clear hB
  have H2 := Lib.hid h
  clear h
  refine hK.out _ _ HSzw2.out (fun _ => ?_)
  clear hK K
  try simp only [List.getElem_toArray, List.getElem_cons_succ, List.getElem_cons_zero, Act.put, List.setIfInBounds_toArray, List.set_cons_zero, List.set_cons_succ]
  refine wpAnyH_ready (rs := [10]) (by kernel_rfl) (by simp) ?_
  refine AllReadyH.cons rfl (fun K hK => ?_) AllReadyH.nil
  simp only [List.getElem_toArray, List.getElem_cons_succ, List.getElem_cons_zero]
  go_simp
  refine (tim_any c2 c1 x2 x1 _ HP2.out HP1.out HF2.out HF1.out).mono ?_
  rintro e' zw3 ⟨d3, rfl, h, hB⟩
  have HSzw3 := Lib.hid (sx_below HSzw2.out (below_of_drew' hB))
  have HBzw3 := Lib.hid (HBzw2.out.trans ((below_of_drew' hB).mono HBzw2.out.size))
  clear hB
  have H3 := Lib.hid h
  clear h
  refine hK.out _ _ HSzw3.out (fun _ => ?_)
  clear hK K
  try simp only [List.getElem_toArray, List.getElem_cons_succ, List.getElem_cons_zero, Act.put, List.setIfInBounds_toArray, List.set_cons_zero, List.set_cons_succ]
  refine wpAnyH_ready (rs := [11]) (by kernel_rfl) (by simp) ?_
  refine AllReadyH.cons rfl (fun K hK => ?_) AllReadyH.nil
  simp only [List.getElem_toArray, List.getElem_cons_succ, List.getElem_cons_zero]
  go_simp
  refine (add_any d2 d3 _ _ _ H2.out H3.out (fits_up _) (fits_up _)).mono ?_
  rintro e' zw4 ⟨d4, rfl, h, hB⟩
  have HSzw4 := Lib.hid (sx_below HSzw3.out (below_of_drew' hB))
  have HBzw4 := Lib.hid (HBzw3.out.trans ((below_of_drew' hB).mono HBzw3.out.size))
  clear hB
  rw [redp_up, redp_up] at h
  obtain rfl : d1 = d4 := H1.out.same h (Eqv.refl _)
  clear h
  refine hK.out _ _ HSzw4.out (fun _ => ?_)
  clear hK K
  try simp only [List.getElem_toArray, List.getElem_cons_succ, List.getElem_cons_zero, Act.put, List.setIfInBounds_toArray, List.set_cons_zero, List.set_cons_succ]
  refine wpAnyH_take (i := 12) (v := .bool true) rfl (by kernel_rfl) (by kernel_rfl) (by kernel_rfl) (fun _ _ _ h => h) (Or.inl ⟨by rfl, ?y12z⟩) HSzw4.out ?r12z
  case y12z => (intro w' hSw; exact exec_eq (.tmp 33) (.tmp 40) _ (by rfl) _ H1.out (by rfl) (by rfl))
  simp only [List.getElem_toArray, List.getElem_cons_succ, List.getElem_cons_zero, Act.put, List.setIfInBounds_toArray, List.set_cons_zero, List.set_cons_succ]
  refine wpAnyH_take (i := 13) (v := ?v13z) rfl (by kernel_rfl) (by kernel_rfl) (by kernel_rfl) (fun _ _ _ h => h) (Or.inl ⟨by rfl, ?y13z⟩) HSzw4.out ?r13z
  case y13z => (intro w' hSw; clear hSw; go_simp; try with_reducible rfl)
  simp only [List.getElem_toArray, List.getElem_cons_succ, List.getElem_cons_zero, Act.put, List.setIfInBounds_toArray, List.set_cons_zero, List.set_cons_succ]
  refine wpAnyH_take (i := 14) (v := ?v14z) rfl (by kernel_rfl) (by kernel_rfl) (by kernel_rfl) (fun _ _ _ h => h) (Or.inl ⟨by rfl, ?y14z⟩) HSzw4.out ?r14z
  case y14z => (intro w' hSw; clear hSw; go_simp; try with_reducible rfl)
  simp only [List.getElem_toArray, List.getElem_cons_succ, List.getElem_cons_zero, Act.put, List.setIfInBounds_toArray, List.set_cons_zero, List.set_cons_succ]
  refine wpAnyH_take (i := 15) (v := .agg c0) rfl (by kernel_rfl) (by kernel_rfl) (by kernel_rfl) (fun _ _ _ h => h) (Or.inl ⟨by rfl, ?y15z⟩) HSzw4.out ?r15z
  case y15z => (intro w' hSw; exact exec_load (.tmp 3) (by rfl) b0 c0 (by rfl) (hSw (b0, c0) (by simp)) (poly_sized HP0.out))
  simp only [List.getElem_toArray, List.getElem_cons_succ, List.getElem_cons_zero, Act.put, List.setIfInBounds_toArray, List.set_cons_zero, List.set_cons_succ]
  refine wpAnyH_take (i := 16) (v := .agg c1) rfl (by kernel_rfl) (by kernel_rfl) (by kernel_rfl) (fun _ _ _ h => h) (Or.inl ⟨by rfl, ?y16z⟩) HSzw4.out ?r16z
  case y16z => (intro w' hSw; exact exec_load (.tmp 4) (by rfl) b1 c1 (by rfl) (hSw (b1, c1) (by simp)) (poly_sized HP1.out))
  simp only [List.getElem_toArray, List.getElem_cons_succ, List.getElem_cons_zero, Act.put, List.setIfInBounds_toArray, List.set_cons_zero, List.set_cons_succ]
  refine wpAnyH_take (i := 18) (v := .agg c1) rfl (by kernel_rfl) (by kernel_rfl) (by kernel_rfl) (fun _ _ _ h => h) (Or.inl ⟨by rfl, ?y18z⟩) HSzw4.out ?r18z
  case y18z => (intro w' hSw; exact exec_load (.tmp 4) (by rfl) b1 c1 (by rfl) (hSw (b1, c1) (by simp)) (poly_sized HP1.out))
  simp only [List.getElem_toArray, List.getElem_cons_succ, List.getElem_cons_zero, Act.put, List.setIfInBounds_toArray, List.set_cons_zero, List.set_cons_succ]
  refine wpAnyH_take (i := 19) (v := .agg c0) rfl (by kernel_rfl) (by kernel_rfl) (by kernel_rfl) (fun _ _ _ h => h) (Or.inl ⟨by rfl, ?y19z⟩) HSzw4.out ?r19z
  case y19z => (intro w' hSw; exact exec_load (.tmp 3) (by rfl) b0 c0 (by rfl) (hSw (b0, c0) (by simp)) (poly_sized HP0.out))
  simp only [List.getElem_toArray, List.getElem_cons_succ, List.getElem_cons_zero, Act.put, List.setIfInBounds_toArray, List.set_cons_zero, List.set_cons_succ]
  refine wpAnyH_ready (rs := [17]) (by kernel_rfl) (by simp) ?_
  refine AllReadyH.cons rfl (fun K hK => ?_) AllReadyH.nil
  simp only [List.getElem_toArray, List.getElem_cons_succ, List.getElem_cons_zero]
  go_simp
  refine (tim_any c0 c1 x0 x1 _ HP0.out HP1.out HF0.out HF1.out).mono ?_
  rintro e' zw5 ⟨d5, rfl, h, hB⟩
  have HSzw5 := Lib.hid (sx_below HSzw4.out (below_of_drew' hB))
  have HBzw5 := Lib.hid (HBzw4.out.trans ((below_of_drew' hB).mono HBzw4.out.size))
  clear hB
  have H5 := Lib.hid h
  clear h
  refine hK.out _ _ HSzw5.out (fun _ => ?_)
  clear hK K
  try simp only [List.getElem_toArray, List.getElem_cons_succ, List.getElem_cons_zero, Act.put, List.setIfInBounds_toArray, List.set_cons_zero, List.set_cons_succ]
  refine wpAnyH_ready (rs := [20]) (by kernel_rfl) (by simp) ?_
  refine AllReadyH.cons rfl (fun K hK => ?_) AllReadyH.nil
  simp only [List.getElem_toArray, List.getElem_cons_succ, List.getElem_cons_zero]
  go_simp
  refine (tim_any c1 c0 x1 x0 _ HP1.out HP0.out HF1.out HF0.out).mono ?_
  rintro e' zw6 ⟨d6, rfl, h, hB⟩
  have HSzw6 := Lib.hid (sx_below HSzw5.out (below_of_drew' hB))
  have HBzw6 := Lib.hid (HBzw5.out.trans ((below_of_drew' hB).mono HBzw5.out.size))
  clear hB
  rw [tim_comm] at h
  obtain rfl : d5 = d6 := H5.out.same h (Eqv.refl _)
  clear h
  refine hK.out _ _ HSzw6.out (fun _ => ?_)
  clear hK K
  try simp only [List.getElem_toArray, List.getElem_cons_succ, List.getElem_cons_zero, Act.put, List.setIfInBounds_toArray, List.set_cons_zero, List.set_cons_succ]
  refine wpAnyH_take (i := 21) (v := .bool true) rfl (by kernel_rfl) (by kernel_rfl) (by kernel_rfl) (fun _ _ _ h => h) (Or.inl ⟨by rfl, ?y21z⟩) HSzw6.out ?r21z
  case y21z => (intro w' hSw; exact exec_eq (.tmp 46) (.tmp 49) _ (by rfl) _ H5.out (by rfl) (by rfl))
  simp only [List.getElem_toArray, List.getElem_cons_succ, List.getElem_cons_zero, Act.put, List.setIfInBounds_toArray, List.set_cons_zero, List.set_cons_succ]
  refine wpAnyH_take (i := 22) (v := ?v22z) rfl (by kernel_rfl) (by kernel_rfl) (by kernel_rfl) (fun _ _ _ h => h) (Or.inl ⟨by rfl, ?y22z⟩) HSzw6.out ?r22z
  case y22z => (intro w' hSw; clear hSw; go_simp; try with_reducible rfl)
  simp only [List.getElem_toArray, List.getElem_cons_succ, List.getElem_cons_zero, Act.put, List.setIfInBounds_toArray, List.set_cons_zero, List.set_cons_succ]
  refine wpAnyH_take (i := 23) (v := ?v23z) rfl (by kernel_rfl) (by kernel_rfl) (by kernel_rfl) (fun _ _ _ h => h) (Or.inl ⟨by rfl, ?y23z⟩) HSzw6.out ?r23z
  case y23z => (intro w' hSw; clear hSw; go_simp; try with_reducible rfl)
  simp only [List.getElem_toArray, List.getElem_cons_succ, List.getElem_cons_zero, Act.put, List.setIfInBounds_toArray, List.set_cons_zero, List.set_cons_succ]
  refine wpAnyH_done (by kernel_rfl) ?_ _
  change Exit.then _ _ Exit.normal _ _
  go_wp2
  go_ret
  exact ⟨rfl, HBzw6.out⟩
end Go.Proofs.Ytjaaldkkfdfkcaa.Sm
