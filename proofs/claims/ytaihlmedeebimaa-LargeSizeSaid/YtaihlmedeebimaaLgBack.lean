/- Walks: LargeBack. Written by tools/mk_lgback.py. -/
import Derived.Test.YtaihlmedeebimaaLgHead
namespace Go.Proofs.Ytaihlmedeebimaa.Lg
open Go.RowKit
set_option linter.all false

theorem sx_two {a b : Nat × Array Value} {w : World} (h1 : w.heap[a.1]? = some (.cells a.2 23 (0, 0))) (h2 : w.heap[b.1]? = some (.cells b.2 23 (0, 0))) : Sx [a, b] w := fun x hx => by
  rcases List.mem_cons.1 hx with rfl | hx
  · exact h1
  · rcases List.mem_cons.1 hx with rfl | hx
    · exact h2
    · cases hx
theorem sx_three {a b c : Nat × Array Value} {w : World} (h1 : w.heap[a.1]? = some (.cells a.2 23 (0, 0))) (h2 : w.heap[b.1]? = some (.cells b.2 23 (0, 0))) (h3 : w.heap[c.1]? = some (.cells c.2 23 (0, 0))) : Sx [a, b, c] w := fun x hx => by
  rcases List.mem_cons.1 hx with rfl | hx
  · exact h1
  · rcases List.mem_cons.1 hx with rfl | hx
    · exact h2
    · rcases List.mem_cons.1 hx with rfl | hx
      · exact h3
      · cases hx

theorem cen_fits (f : Nat → F) : Fits (fun i => cen (f i)) := fun i _ => by have := cen_bd (f i); show -9223372036854775808 ≤ cen (f i) ∧ cen (f i) ≤ 9223372036854775807; omega
theorem redp_cen (f : Nat → F) : redp (fun i => cen (f i)) = f := by funext i; exact red_cen _

set_option maxHeartbeats 4000000 in
set_option maxRecDepth 100000 in
theorem back_walk (cs : Array Value) (p : Nat → Int) (w : World) (hP : IsP cs p) (hF : Fits p) : Calls Try.prog 4 #[.agg cs] w fun e w' => e = .returned (.bool true) ∧ Below w.heap.size w w' := by
  have HP := Lib.hid hP; have HF := Lib.hid hF; clear hP hF
  obtain ⟨Z, hz, hZ⟩ := zero_poly
  have HZ := Lib.hid hZ
  have HA := Lib.hid (heap_alloc_last w (.cells cs 23))
  have HB0 := Lib.hid ((Below.refl w.heap.size w).alloc (Nat.le_refl _) (.cells cs 23))
  clear hZ
  go_enter Try.func4, Try.ntmps4
  go_wp2_with fail
  refine (head_any _).mono ?_
  rintro e' w1 ⟨rfl, hB⟩
  have HA1 := Lib.hid ((hB.block w.heap.size (by simp)).trans HA.out)
  have HB1 := Lib.hid (HB0.out.trans (hB.mono HB0.out.size))
  have hs1 : w.heap.size + 1 ≤ w1.heap.size := by have := hB.size; simpa using this
  clear hB HB0 HA
  go_wp2_with (refine wpList_load_row rfl 23 (.tmp 1) rfl w.heap.size rfl 23 cs (0, 0) _ HA1.out Try.underlying23 rfl (poly_sized HP.out) ?_)
  refine (mod_any cs p _ HP.out HF.out).mono ?_
  rintro e' w2 ⟨ms, rfl, hM, hB⟩
  have HM := Lib.hid hM
  have HA2 := Lib.hid ((hB.block w.heap.size (by omega)).trans HA1.out)
  have HB2 := Lib.hid (HB1.out.trans (hB.mono HB1.out.size))
  have hs2 : w.heap.size + 1 ≤ w2.heap.size := by have := hB.size; omega
  clear hB hM HB1 HA1
  go_wp2_with (refine wpList_store_row rfl 23 (.tmp 4) (.tmp 7) rfl w2.heap.size ms rfl rfl 23 Z (heap_alloc_last w2 _) (poly_sized HM.out) (by rw [HZ.out.1, HM.out.1]) HM.out.cells ?_)
  rw [World.setRow_alloc_new]
  have HB3 := Lib.hid (HB2.out.alloc HB2.out.size (.cells ms 23))
  have HMM := Lib.hid (heap_alloc_last w2 (.cells ms 23))
  have HA3 := Lib.hid ((Below.heap_alloc w2 (.cells ms 23) w.heap.size (by omega)).trans HA2.out)
  obtain ⟨bA, hbA⟩ : ∃ b, w.heap.size = b := ⟨_, rfl⟩
  obtain ⟨bM, hbM⟩ : ∃ b, w2.heap.size = b := ⟨_, rfl⟩
  rw [hbA] at HA3; rw [hbM] at HMM
  have HS3 : Hid (Sx [(bA, cs), (bM, ms)] (w2.alloc (.cells ms 23)).drew) := Lib.hid (sx_two HA3.out HMM.out)
  have HB3 := Lib.hid HB3.out.drew
  change Code.wp _ _ _ _ (w2.alloc (.cells ms 23))
  generalize w2.alloc (.cells ms 23) = w3 at *
  rw [hbM, hbA]
  clear hbM hs1 hs2 HA2 HB2 HMM HA3 hz HZ
  refine region_calm ?_
  refine wp_region_any (by kernel_rfl) ?_
  change wpAny _ _ _ _ _ _ _ (World.drew _)
  refine wpAny_of_held (S := Sx [(bA, cs), (bM, ms)]) _ _ _ _ ?_
  refine wpAnyH_take (i := 0) (v := ?v0v) rfl (by kernel_rfl) (by kernel_rfl) (by kernel_rfl) (fun _ _ _ h => h) (Or.inl ⟨by rfl, ?y0v⟩) HS3.out ?r0v
  case y0v => (intro w' hSw; clear hSw; go_simp; try with_reducible rfl)
  simp only [List.getElem_toArray, List.getElem_cons_succ, List.getElem_cons_zero, Act.put, List.setIfInBounds_toArray, List.set_cons_zero, List.set_cons_succ]
  refine wpAnyH_take (i := 1) (v := ?v1v) rfl (by kernel_rfl) (by kernel_rfl) (by kernel_rfl) (fun _ _ _ h => h) (Or.inl ⟨by rfl, ?y1v⟩) HS3.out ?r1v
  case y1v => (intro w' hSw; clear hSw; go_simp; try with_reducible rfl)
  simp only [List.getElem_toArray, List.getElem_cons_succ, List.getElem_cons_zero, Act.put, List.setIfInBounds_toArray, List.set_cons_zero, List.set_cons_succ]
  refine wpAnyH_take (i := 2) (v := .agg cs) rfl (by kernel_rfl) (by kernel_rfl) (by kernel_rfl) (fun _ _ _ h => h) (Or.inl ⟨by rfl, ?y2v⟩) HS3.out ?r2v
  case y2v => (intro w' hSw; exact exec_load (.tmp 1) (by rfl) bA cs (by rfl) (hSw (bA, cs) (by simp)) (poly_sized HP.out))
  simp only [List.getElem_toArray, List.getElem_cons_succ, List.getElem_cons_zero, Act.put, List.setIfInBounds_toArray, List.set_cons_zero, List.set_cons_succ]
  refine wpAnyH_take (i := 5) (v := .agg ms) rfl (by kernel_rfl) (by kernel_rfl) (by kernel_rfl) (fun _ _ _ h => h) (Or.inl ⟨by rfl, ?y5v⟩) HS3.out ?r5v
  case y5v => (intro w' hSw; exact exec_load (.tmp 4) (by rfl) bM ms (by rfl) (hSw (bM, ms) (by simp)) (poly_sized HM.out))
  simp only [List.getElem_toArray, List.getElem_cons_succ, List.getElem_cons_zero, Act.put, List.setIfInBounds_toArray, List.set_cons_zero, List.set_cons_succ]
  refine wpAnyH_ready (rs := [3]) (by kernel_rfl) (by simp) ?_
  refine AllReadyH.cons rfl (fun K hK => ?_) AllReadyH.nil
  simp only [List.getElem_toArray, List.getElem_cons_succ, List.getElem_cons_zero]
  go_simp
  refine (ntt_any cs p _ HP.out HF.out).mono ?_
  rintro e' vw1 ⟨d1, rfl, h1, hB⟩
  have HSvw1 := Lib.hid (sx_below HS3.out (below_of_drew' hB))
  have HBvw1 := Lib.hid (HB3.out.trans ((below_of_drew' hB).mono HB3.out.size))
  clear hB
  have H1 := Lib.hid h1
  clear h1
  refine hK.out _ _ HSvw1.out (fun _ => ?_)
  clear hK K
  try simp only [List.getElem_toArray, List.getElem_cons_succ, List.getElem_cons_zero, Act.put, List.setIfInBounds_toArray, List.set_cons_zero, List.set_cons_succ]
  refine wpAnyH_ready (rs := [4]) (by kernel_rfl) (by simp) ?_
  refine AllReadyH.cons rfl (fun K hK => ?_) AllReadyH.nil
  simp only [List.getElem_toArray, List.getElem_cons_succ, List.getElem_cons_zero]
  go_simp
  refine (inv_any d1 _ _ H1.out (fits_up _)).mono ?_
  rintro e' vw2 ⟨d2, rfl, h2, hB⟩
  have HSvw2 := Lib.hid (sx_below HSvw1.out (below_of_drew' hB))
  have HBvw2 := Lib.hid (HBvw1.out.trans ((below_of_drew' hB).mono HBvw1.out.size))
  clear hB
  rw [redp_up, inv_ntt] at h2
  obtain rfl : ms = d2 := HM.out.same h2 (Eqv.refl _)
  clear h2
  refine hK.out _ _ HSvw2.out (fun _ => ?_)
  clear hK K
  try simp only [List.getElem_toArray, List.getElem_cons_succ, List.getElem_cons_zero, Act.put, List.setIfInBounds_toArray, List.set_cons_zero, List.set_cons_succ]
  refine wpAnyH_take (i := 6) (v := .bool true) rfl (by kernel_rfl) (by kernel_rfl) (by kernel_rfl) (fun _ _ _ h => h) (Or.inl ⟨by rfl, ?y6v⟩) HSvw2.out ?r6v
  case y6v => (intro w' hSw; exact exec_eq (.tmp 12) (.tmp 13) _ (by rfl) _ HM.out (by rfl) (by rfl))
  simp only [List.getElem_toArray, List.getElem_cons_succ, List.getElem_cons_zero, Act.put, List.setIfInBounds_toArray, List.set_cons_zero, List.set_cons_succ]
  refine wpAnyH_take (i := 7) (v := ?v7v) rfl (by kernel_rfl) (by kernel_rfl) (by kernel_rfl) (fun _ _ _ h => h) (Or.inl ⟨by rfl, ?y7v⟩) HSvw2.out ?r7v
  case y7v => (intro w' hSw; clear hSw; go_simp; try with_reducible rfl)
  simp only [List.getElem_toArray, List.getElem_cons_succ, List.getElem_cons_zero, Act.put, List.setIfInBounds_toArray, List.set_cons_zero, List.set_cons_succ]
  refine wpAnyH_take (i := 8) (v := ?v8v) rfl (by kernel_rfl) (by kernel_rfl) (by kernel_rfl) (fun _ _ _ h => h) (Or.inl ⟨by rfl, ?y8v⟩) HSvw2.out ?r8v
  case y8v => (intro w' hSw; clear hSw; go_simp; try with_reducible rfl)
  simp only [List.getElem_toArray, List.getElem_cons_succ, List.getElem_cons_zero, Act.put, List.setIfInBounds_toArray, List.set_cons_zero, List.set_cons_succ]
  refine wpAnyH_take (i := 9) (v := .agg cs) rfl (by kernel_rfl) (by kernel_rfl) (by kernel_rfl) (fun _ _ _ h => h) (Or.inl ⟨by rfl, ?y9v⟩) HSvw2.out ?r9v
  case y9v => (intro w' hSw; exact exec_load (.tmp 1) (by rfl) bA cs (by rfl) (hSw (bA, cs) (by simp)) (poly_sized HP.out))
  simp only [List.getElem_toArray, List.getElem_cons_succ, List.getElem_cons_zero, Act.put, List.setIfInBounds_toArray, List.set_cons_zero, List.set_cons_succ]
  refine wpAnyH_take (i := 12) (v := .agg ms) rfl (by kernel_rfl) (by kernel_rfl) (by kernel_rfl) (fun _ _ _ h => h) (Or.inl ⟨by rfl, ?y12v⟩) HSvw2.out ?r12v
  case y12v => (intro w' hSw; exact exec_load (.tmp 4) (by rfl) bM ms (by rfl) (hSw (bM, ms) (by simp)) (poly_sized HM.out))
  simp only [List.getElem_toArray, List.getElem_cons_succ, List.getElem_cons_zero, Act.put, List.setIfInBounds_toArray, List.set_cons_zero, List.set_cons_succ]
  refine wpAnyH_ready (rs := [10]) (by kernel_rfl) (by simp) ?_
  refine AllReadyH.cons rfl (fun K hK => ?_) AllReadyH.nil
  simp only [List.getElem_toArray, List.getElem_cons_succ, List.getElem_cons_zero]
  go_simp
  refine (inv_any cs p _ HP.out HF.out).mono ?_
  rintro e' vw3 ⟨d3, rfl, h3, hB⟩
  have HSvw3 := Lib.hid (sx_below HSvw2.out (below_of_drew' hB))
  have HBvw3 := Lib.hid (HBvw2.out.trans ((below_of_drew' hB).mono HBvw2.out.size))
  clear hB
  have H3 := Lib.hid h3
  clear h3
  refine hK.out _ _ HSvw3.out (fun _ => ?_)
  clear hK K
  try simp only [List.getElem_toArray, List.getElem_cons_succ, List.getElem_cons_zero, Act.put, List.setIfInBounds_toArray, List.set_cons_zero, List.set_cons_succ]
  refine wpAnyH_ready (rs := [11]) (by kernel_rfl) (by simp) ?_
  refine AllReadyH.cons rfl (fun K hK => ?_) AllReadyH.nil
  simp only [List.getElem_toArray, List.getElem_cons_succ, List.getElem_cons_zero]
  go_simp
  refine (ntt_any d3 _ _ H3.out (fits_up _)).mono ?_
  rintro e' vw4 ⟨d4, rfl, h4, hB⟩
  have HSvw4 := Lib.hid (sx_below HSvw3.out (below_of_drew' hB))
  have HBvw4 := Lib.hid (HBvw3.out.trans ((below_of_drew' hB).mono HBvw3.out.size))
  clear hB
  rw [redp_up, ntt_inv] at h4
  obtain rfl : ms = d4 := HM.out.same h4 (Eqv.refl _)
  clear h4
  refine hK.out _ _ HSvw4.out (fun _ => ?_)
  clear hK K
  try simp only [List.getElem_toArray, List.getElem_cons_succ, List.getElem_cons_zero, Act.put, List.setIfInBounds_toArray, List.set_cons_zero, List.set_cons_succ]
  refine wpAnyH_take (i := 13) (v := .bool true) rfl (by kernel_rfl) (by kernel_rfl) (by kernel_rfl) (fun _ _ _ h => h) (Or.inl ⟨by rfl, ?y13v⟩) HSvw4.out ?r13v
  case y13v => (intro w' hSw; exact exec_eq (.tmp 19) (.tmp 20) _ (by rfl) _ HM.out (by rfl) (by rfl))
  simp only [List.getElem_toArray, List.getElem_cons_succ, List.getElem_cons_zero, Act.put, List.setIfInBounds_toArray, List.set_cons_zero, List.set_cons_succ]
  refine wpAnyH_take (i := 14) (v := ?v14v) rfl (by kernel_rfl) (by kernel_rfl) (by kernel_rfl) (fun _ _ _ h => h) (Or.inl ⟨by rfl, ?y14v⟩) HSvw4.out ?r14v
  case y14v => (intro w' hSw; clear hSw; go_simp; try with_reducible rfl)
  simp only [List.getElem_toArray, List.getElem_cons_succ, List.getElem_cons_zero, Act.put, List.setIfInBounds_toArray, List.set_cons_zero, List.set_cons_succ]
  refine wpAnyH_take (i := 15) (v := ?v15v) rfl (by kernel_rfl) (by kernel_rfl) (by kernel_rfl) (fun _ _ _ h => h) (Or.inl ⟨by rfl, ?y15v⟩) HSvw4.out ?r15v
  case y15v => (intro w' hSw; clear hSw; go_simp; try with_reducible rfl)
  simp only [List.getElem_toArray, List.getElem_cons_succ, List.getElem_cons_zero, Act.put, List.setIfInBounds_toArray, List.set_cons_zero, List.set_cons_succ]
  refine wpAnyH_take (i := 16) (v := .agg cs) rfl (by kernel_rfl) (by kernel_rfl) (by kernel_rfl) (fun _ _ _ h => h) (Or.inl ⟨by rfl, ?y16v⟩) HSvw4.out ?r16v
  case y16v => (intro w' hSw; exact exec_load (.tmp 1) (by rfl) bA cs (by rfl) (hSw (bA, cs) (by simp)) (poly_sized HP.out))
  simp only [List.getElem_toArray, List.getElem_cons_succ, List.getElem_cons_zero, Act.put, List.setIfInBounds_toArray, List.set_cons_zero, List.set_cons_succ]
  refine wpAnyH_take (i := 19) (v := .agg ms) rfl (by kernel_rfl) (by kernel_rfl) (by kernel_rfl) (fun _ _ _ h => h) (Or.inl ⟨by rfl, ?y19v⟩) HSvw4.out ?r19v
  case y19v => (intro w' hSw; exact exec_load (.tmp 4) (by rfl) bM ms (by rfl) (hSw (bM, ms) (by simp)) (poly_sized HM.out))
  simp only [List.getElem_toArray, List.getElem_cons_succ, List.getElem_cons_zero, Act.put, List.setIfInBounds_toArray, List.set_cons_zero, List.set_cons_succ]
  refine wpAnyH_ready (rs := [17]) (by kernel_rfl) (by simp) ?_
  refine AllReadyH.cons rfl (fun K hK => ?_) AllReadyH.nil
  simp only [List.getElem_toArray, List.getElem_cons_succ, List.getElem_cons_zero]
  go_simp
  refine (cen_any cs p _ HP.out HF.out).mono ?_
  rintro e' vw5 ⟨d5, rfl, h5, hB⟩
  have HSvw5 := Lib.hid (sx_below HSvw4.out (below_of_drew' hB))
  have HBvw5 := Lib.hid (HBvw4.out.trans ((below_of_drew' hB).mono HBvw4.out.size))
  clear hB
  have H5 := Lib.hid h5
  clear h5
  refine hK.out _ _ HSvw5.out (fun _ => ?_)
  clear hK K
  try simp only [List.getElem_toArray, List.getElem_cons_succ, List.getElem_cons_zero, Act.put, List.setIfInBounds_toArray, List.set_cons_zero, List.set_cons_succ]
  refine wpAnyH_ready (rs := [18]) (by kernel_rfl) (by simp) ?_
  refine AllReadyH.cons rfl (fun K hK => ?_) AllReadyH.nil
  simp only [List.getElem_toArray, List.getElem_cons_succ, List.getElem_cons_zero]
  go_simp
  refine (mod_any d5 _ _ H5.out (cen_fits _)).mono ?_
  rintro e' vw6 ⟨d6, rfl, h6, hB⟩
  have HSvw6 := Lib.hid (sx_below HSvw5.out (below_of_drew' hB))
  have HBvw6 := Lib.hid (HBvw5.out.trans ((below_of_drew' hB).mono HBvw5.out.size))
  clear hB
  rw [redp_cen] at h6
  obtain rfl : ms = d6 := HM.out.same h6 (Eqv.refl _)
  clear h6
  refine hK.out _ _ HSvw6.out (fun _ => ?_)
  clear hK K
  try simp only [List.getElem_toArray, List.getElem_cons_succ, List.getElem_cons_zero, Act.put, List.setIfInBounds_toArray, List.set_cons_zero, List.set_cons_succ]
  refine wpAnyH_take (i := 20) (v := .bool true) rfl (by kernel_rfl) (by kernel_rfl) (by kernel_rfl) (fun _ _ _ h => h) (Or.inl ⟨by rfl, ?y20v⟩) HSvw6.out ?r20v
  case y20v => (intro w' hSw; exact exec_eq (.tmp 26) (.tmp 27) _ (by rfl) _ HM.out (by rfl) (by rfl))
  simp only [List.getElem_toArray, List.getElem_cons_succ, List.getElem_cons_zero, Act.put, List.setIfInBounds_toArray, List.set_cons_zero, List.set_cons_succ]
  refine wpAnyH_take (i := 21) (v := ?v21v) rfl (by kernel_rfl) (by kernel_rfl) (by kernel_rfl) (fun _ _ _ h => h) (Or.inl ⟨by rfl, ?y21v⟩) HSvw6.out ?r21v
  case y21v => (intro w' hSw; clear hSw; go_simp; try with_reducible rfl)
  simp only [List.getElem_toArray, List.getElem_cons_succ, List.getElem_cons_zero, Act.put, List.setIfInBounds_toArray, List.set_cons_zero, List.set_cons_succ]
  refine wpAnyH_take (i := 22) (v := ?v22v) rfl (by kernel_rfl) (by kernel_rfl) (by kernel_rfl) (fun _ _ _ h => h) (Or.inl ⟨by rfl, ?y22v⟩) HSvw6.out ?r22v
  case y22v => (intro w' hSw; clear hSw; go_simp; try with_reducible rfl)
  simp only [List.getElem_toArray, List.getElem_cons_succ, List.getElem_cons_zero, Act.put, List.setIfInBounds_toArray, List.set_cons_zero, List.set_cons_succ]
  refine wpAnyH_done (by kernel_rfl) ?_ _
  change Exit.then _ _ Exit.normal _ _
  go_wp2
  go_ret
  exact ⟨rfl, HBvw6.out⟩
end Go.Proofs.Ytaihlmedeebimaa.Lg
