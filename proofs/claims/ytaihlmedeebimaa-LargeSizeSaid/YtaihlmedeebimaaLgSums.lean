/- Walks: LargeSums. Written by tools/mk_lgsums.py. -/
import Derived.Test.YtaihlmedeebimaaLgBack
namespace Go.Proofs.Ytaihlmedeebimaa.Lg
open Go.RowKit
set_option linter.all false

theorem mi_pl (f g : Nat → F) : mi (pl f g) g = f := by funext i; simp only [mi, pl]; grind
theorem mi_self (f : Nat → F) (i : Nat) : up (mi f f) i = 0 := by
  have : mi f f i = 0 := by simp only [mi]; grind
  rw [up_at, this]; decide
theorem mag_add (x y : F) : mag (x + y) ≤ mag x + mag y := by
  have h : x + y = red (cen x + cen y) := by rw [red_add, red_cen, red_cen]
  have hn : nv (x + y) = (cen x + cen y) % 8380417 := by rw [h, nv_red]
  have hc : cen (x + y) = if nv (x + y) ≤ 4190208 then nv (x + y) else nv (x + y) - 8380417 := rfl
  have a := cen_bd x; have b := cen_bd y
  unfold mag
  rw [hc, hn]
  split <;> split <;> split <;> split <;> omega
theorem siz_add (f g : Nat → F) : siz (pl f g) ≤ siz f + siz g := by
  refine sizTo_le _ _ (by have := sizTo_bd f 256; have := sizTo_bd g 256; unfold siz; omega) 256 fun i hi => ?_
  have h1 := sizTo_ge f 256 i hi; have h2 := sizTo_ge g 256 i hi; have h3 := mag_add (f i) (g i)
  unfold siz pl; omega
theorem zero_built : ∃ B : Array Value, Try.prog.built 23 [] = some B ∧ IsP B (fun _ => 0) :=
  ⟨Array.replicate 256 (.int .i64 0), by kernel_rfl, by simp, fun i hi => by simp [hi]⟩
theorem exec_build {o : Oper} {ev : Operand → Value} {w : World} (ho : o.op = .build 23 #[]) (B : Array Value) (hb : Try.prog.built 23 [] = some B) : (execOp ev o).run Try.prog w = .ok (.value (.agg B)) w := by
  unfold execOp
  have h := run_build w 23 ((#[] : Array (Nat × Operand)).map fun (x : Nat × Operand) => (x.1, ev x.2)) B (by simpa using hb)
  simp only [ho, Sem.run_bind, h, Result.andThen_ok, Sem.run_pure]
theorem zero_fits : Fits (fun _ => 0) := fun i _ => by show (_ : Int) ≤ 0 ∧ (0 : Int) ≤ _; omega
theorem redp_zero : redp (fun _ => 0) = fun _ => 0 := by funext i; show red 0 = 0; decide
theorem sx_3 {a b c : Nat × Array Value} {w : World} (h0 : w.heap[a.1]? = some (.cells a.2 23 (0, 0))) (h1 : w.heap[b.1]? = some (.cells b.2 23 (0, 0))) (h2 : w.heap[c.1]? = some (.cells c.2 23 (0, 0))) : Sx [a, b, c] w := fun x hx => by
  simp only [List.mem_cons, List.not_mem_nil, or_false] at hx
  rcases hx with rfl | rfl | rfl
  · exact h0
  · exact h1
  · exact h2

set_option maxHeartbeats 8000000 in
set_option maxRecDepth 100000 in
theorem sums_walk (c0 c1 : Array Value) (x0 x1 : Nat → Int) (w : World) (hP0 : IsP c0 x0) (hP1 : IsP c1 x1) (hF0 : Fits x0) (hF1 : Fits x1) :
    Calls Try.prog 6 #[.agg c0, .agg c1] w fun e w' => e = .returned (.bool true) ∧ Below w.heap.size w w' := by
  have HP0 := Lib.hid hP0; have HF0 := Lib.hid hF0; clear hP0 hF0
  have HP1 := Lib.hid hP1; have HF1 := Lib.hid hF1; clear hP1 hF1
  obtain ⟨Z, hz, hZ⟩ := zero_poly
  have HZ := Lib.hid hZ
  clear hZ
  have e1 : (w.alloc (.cells c0 23)).heap.size = w.heap.size + 1 := by simp
  have g0 := heap_alloc_last w (.cells c0 23)
  have g0 := (Below.heap_alloc (w.alloc (.cells c0 23)) (.cells c1 23) (w.heap.size) (by rw [e1]; omega)).trans g0
  have HA0 := Lib.hid g0; clear g0
  have g1 := heap_alloc_last (w.alloc (.cells c0 23)) (.cells c1 23)
  rw [e1] at g1
  have HA1 := Lib.hid g1; clear g1
  have HB0 := Lib.hid (((Below.refl w.heap.size w).alloc (Nat.le_refl _) (.cells c0 23)).alloc (by simp <;> omega) (.cells c1 23))
  clear e1
  go_enter Try.func6, Try.ntmps6
  go_wp2_with fail
  refine (head_any _).mono ?_
  rintro e' w1 ⟨rfl, hB⟩
  have hs1 : w.heap.size + 2 ≤ w1.heap.size := by have := hB.size; simpa using this
  have HA0 := Lib.hid ((hB.block (w.heap.size) (by simp <;> omega)).trans HA0.out)
  have HA1 := Lib.hid ((hB.block (w.heap.size + 1) (by simp <;> omega)).trans HA1.out)
  have HB1 := Lib.hid (HB0.out.trans (hB.mono HB0.out.size))
  clear hB HB0
  obtain ⟨b0, hb0⟩ : ∃ b, w.heap.size = b := ⟨_, rfl⟩
  obtain ⟨b1, hb1⟩ : ∃ b, w.heap.size + 1 = b := ⟨_, rfl⟩
  rw [hb0] at HA0
  rw [hb1] at HA1
  have hl0 : b0 < w1.heap.size := by omega
  have hl1 : b1 < w1.heap.size := by omega
  rw [hb1, hb0]
  clear hb1 hb0 hs1
  go_wp2_with (first | (refine wpList_load_row rfl 23 (.tmp 2) rfl b0 rfl 23 c0 (0, 0) _ HA0.out Try.underlying23 rfl (poly_sized HP0.out) ?_) | (refine wpList_load_row rfl 23 (.tmp 3) rfl b1 rfl 23 c1 (0, 0) _ HA1.out Try.underlying23 rfl (poly_sized HP1.out) ?_))
  refine (add_any c0 c1 x0 x1 _ HP0.out HP1.out HF0.out HF1.out).mono ?_
  rintro e' w2 ⟨ss, rfl, hS, hB⟩
  have HSS := Lib.hid hS
  have HA0 := Lib.hid ((hB.block b0 hl0).trans HA0.out); have HA1 := Lib.hid ((hB.block b1 hl1).trans HA1.out)
  have HB2 := Lib.hid (HB1.out.trans (hB.mono HB1.out.size))
  have hs2 := hB.size
  clear hB hS HB1
  go_wp2_with (refine wpList_store_row rfl 23 (.tmp 6) (.tmp 10) rfl w2.heap.size ss rfl rfl 23 Z (heap_alloc_last w2 _) (poly_sized HSS.out) (by rw [HZ.out.1, HSS.out.1]) HSS.out.cells ?_)
  rw [World.setRow_alloc_new]
  have HB3 := Lib.hid (HB2.out.alloc HB2.out.size (.cells ss 23))
  have HM := Lib.hid (heap_alloc_last w2 (.cells ss 23))
  have HA0 := Lib.hid ((Below.heap_alloc w2 (.cells ss 23) b0 (by omega)).trans HA0.out); have HA1 := Lib.hid ((Below.heap_alloc w2 (.cells ss 23) b1 (by omega)).trans HA1.out)
  obtain ⟨b3, hb3⟩ : ∃ b, w2.heap.size = b := ⟨_, rfl⟩
  rw [hb3] at HM
  have HS3 : Hid (Sx [(b0, c0), (b1, c1), (b3, ss)] (w2.alloc (.cells ss 23)).drew) := Lib.hid (sx_3 HA0.out HA1.out HM.out)
  have HB3 := Lib.hid HB3.out.drew
  obtain ⟨B, hbb, hbz⟩ := zero_built
  have HBB := Lib.hid hbb; have HBZ := Lib.hid hbz; clear hbb hbz
  have sle := siz_add (redp x0) (redp x1)
  have sy := sizTo_bd (redp x0) 256; have sz := sizTo_bd (redp x1) 256; have sx := sizTo_bd (pl (redp x0) (redp x1)) 256
  change 0 ≤ siz _ ∧ siz _ ≤ _ at sy sz sx
  obtain ⟨kx, hkx⟩ : ∃ x, siz (pl (redp x0) (redp x1)) = x := ⟨_, rfl⟩
  obtain ⟨ky, hky⟩ : ∃ x, siz (redp x0) = x := ⟨_, rfl⟩
  obtain ⟨kz, hkz⟩ : ∃ x, siz (redp x1) = x := ⟨_, rfl⟩
  rw [hkx] at sle sx; rw [hky] at sle sy; rw [hkz] at sle sz
  have hdec : decide (kx ≤ ky + kz) = true := decide_eq_true sle
  have hwr : IntKind.i64.wrap (ky + kz) = ky + kz := IntWalk.i64_in _ (by omega)
  have KX := Lib.hid hkx; have KY := Lib.hid hky; have KZ := Lib.hid hkz; clear hkx hky hkz
  obtain ⟨sy1, sy2⟩ := sy; obtain ⟨sz1, sz2⟩ := sz; obtain ⟨sx1, sx2⟩ := sx
  change Code.wp _ _ _ _ (w2.alloc (.cells ss 23))
  generalize w2.alloc (.cells ss 23) = w3 at *
  rw [hb3]
  clear hb3 hl0 hl1 hs2 HA0 HA1 HM hz HZ HB2
  refine region_calm ?_
  refine wp_region_any (by kernel_rfl) ?_
  change wpAny _ _ _ _ _ _ _ (World.drew _)
  refine wpAny_of_held (S := Sx [(b0, c0), (b1, c1), (b3, ss)]) _ _ _ _ ?_
  refine wpAnyH_take (i := 0) (v := ?v0a) rfl (by kernel_rfl) (by kernel_rfl) (by kernel_rfl) (fun _ _ _ h => h) (Or.inl ⟨by rfl, ?y0a⟩) HS3.out ?r0a
  case y0a => (intro w' hSw; clear hSw; go_simp; try with_reducible rfl)
  simp only [List.getElem_toArray, List.getElem_cons_succ, List.getElem_cons_zero, Act.put, List.setIfInBounds_toArray, List.set_cons_zero, List.set_cons_succ]
  refine wpAnyH_take (i := 1) (v := ?v1a) rfl (by kernel_rfl) (by kernel_rfl) (by kernel_rfl) (fun _ _ _ h => h) (Or.inl ⟨by rfl, ?y1a⟩) HS3.out ?r1a
  case y1a => (intro w' hSw; clear hSw; go_simp; try with_reducible rfl)
  simp only [List.getElem_toArray, List.getElem_cons_succ, List.getElem_cons_zero, Act.put, List.setIfInBounds_toArray, List.set_cons_zero, List.set_cons_succ]
  refine wpAnyH_take (i := 2) (v := .agg ss) rfl (by kernel_rfl) (by kernel_rfl) (by kernel_rfl) (fun _ _ _ h => h) (Or.inl ⟨by rfl, ?y2a⟩) HS3.out ?r2a
  case y2a => (intro w' hSw; exact exec_load (.tmp 6) (by rfl) b3 ss (by rfl) (hSw (b3, ss) (by simp)) (poly_sized HSS.out))
  simp only [List.getElem_toArray, List.getElem_cons_succ, List.getElem_cons_zero, Act.put, List.setIfInBounds_toArray, List.set_cons_zero, List.set_cons_succ]
  refine wpAnyH_take (i := 4) (v := .agg c0) rfl (by kernel_rfl) (by kernel_rfl) (by kernel_rfl) (fun _ _ _ h => h) (Or.inl ⟨by rfl, ?y4a⟩) HS3.out ?r4a
  case y4a => (intro w' hSw; exact exec_load (.tmp 2) (by rfl) b0 c0 (by rfl) (hSw (b0, c0) (by simp)) (poly_sized HP0.out))
  simp only [List.getElem_toArray, List.getElem_cons_succ, List.getElem_cons_zero, Act.put, List.setIfInBounds_toArray, List.set_cons_zero, List.set_cons_succ]
  refine wpAnyH_take (i := 6) (v := .agg c1) rfl (by kernel_rfl) (by kernel_rfl) (by kernel_rfl) (fun _ _ _ h => h) (Or.inl ⟨by rfl, ?y6a⟩) HS3.out ?r6a
  case y6a => (intro w' hSw; exact exec_load (.tmp 3) (by rfl) b1 c1 (by rfl) (hSw (b1, c1) (by simp)) (poly_sized HP1.out))
  simp only [List.getElem_toArray, List.getElem_cons_succ, List.getElem_cons_zero, Act.put, List.setIfInBounds_toArray, List.set_cons_zero, List.set_cons_succ]
  refine wpAnyH_ready (rs := [3]) (by kernel_rfl) (by simp) ?_
  refine AllReadyH.cons rfl (fun K hK => ?_) AllReadyH.nil
  simp only [List.getElem_toArray, List.getElem_cons_succ, List.getElem_cons_zero]
  go_simp
  refine (ntt_any ss _ _ HSS.out (fits_up _)).mono ?_
  rintro e' aw1 ⟨d1, rfl, h, hB⟩
  have HSaw1 := Lib.hid (sx_below HS3.out (below_of_drew' hB))
  have HBaw1 := Lib.hid (HB3.out.trans ((below_of_drew' hB).mono HB3.out.size))
  clear hB
  rw [redp_up, ntt_pl] at h
  have H1 := Lib.hid h
  clear h
  refine hK.out _ _ HSaw1.out (fun _ => ?_)
  clear hK K
  try simp only [List.getElem_toArray, List.getElem_cons_succ, List.getElem_cons_zero, Act.put, List.setIfInBounds_toArray, List.set_cons_zero, List.set_cons_succ]
  refine wpAnyH_ready (rs := [5]) (by kernel_rfl) (by simp) ?_
  refine AllReadyH.cons rfl (fun K hK => ?_) AllReadyH.nil
  simp only [List.getElem_toArray, List.getElem_cons_succ, List.getElem_cons_zero]
  go_simp
  refine (ntt_any c0 x0 _ HP0.out HF0.out).mono ?_
  rintro e' aw2 ⟨d2, rfl, h, hB⟩
  have HSaw2 := Lib.hid (sx_below HSaw1.out (below_of_drew' hB))
  have HBaw2 := Lib.hid (HBaw1.out.trans ((below_of_drew' hB).mono HBaw1.out.size))
  clear hB
  have H2 := Lib.hid h
  clear h
  refine hK.out _ _ HSaw2.out (fun _ => ?_)
  clear hK K
  try simp only [List.getElem_toArray, List.getElem_cons_succ, List.getElem_cons_zero, Act.put, List.setIfInBounds_toArray, List.set_cons_zero, List.set_cons_succ]
  refine wpAnyH_ready (rs := [7]) (by kernel_rfl) (by simp) ?_
  refine AllReadyH.cons rfl (fun K hK => ?_) AllReadyH.nil
  simp only [List.getElem_toArray, List.getElem_cons_succ, List.getElem_cons_zero]
  go_simp
  refine (ntt_any c1 x1 _ HP1.out HF1.out).mono ?_
  rintro e' aw3 ⟨d3, rfl, h, hB⟩
  have HSaw3 := Lib.hid (sx_below HSaw2.out (below_of_drew' hB))
  have HBaw3 := Lib.hid (HBaw2.out.trans ((below_of_drew' hB).mono HBaw2.out.size))
  clear hB
  have H3 := Lib.hid h
  clear h
  refine hK.out _ _ HSaw3.out (fun _ => ?_)
  clear hK K
  try simp only [List.getElem_toArray, List.getElem_cons_succ, List.getElem_cons_zero, Act.put, List.setIfInBounds_toArray, List.set_cons_zero, List.set_cons_succ]
  refine wpAnyH_ready (rs := [8]) (by kernel_rfl) (by simp) ?_
  refine AllReadyH.cons rfl (fun K hK => ?_) AllReadyH.nil
  simp only [List.getElem_toArray, List.getElem_cons_succ, List.getElem_cons_zero]
  go_simp
  refine (add_any d2 d3 _ _ _ H2.out H3.out (fits_up _) (fits_up _)).mono ?_
  rintro e' aw4 ⟨d4, rfl, h, hB⟩
  have HSaw4 := Lib.hid (sx_below HSaw3.out (below_of_drew' hB))
  have HBaw4 := Lib.hid (HBaw3.out.trans ((below_of_drew' hB).mono HBaw3.out.size))
  clear hB
  rw [redp_up, redp_up] at h
  obtain rfl : d1 = d4 := H1.out.same h (Eqv.refl _)
  clear h
  refine hK.out _ _ HSaw4.out (fun _ => ?_)
  clear hK K
  try simp only [List.getElem_toArray, List.getElem_cons_succ, List.getElem_cons_zero, Act.put, List.setIfInBounds_toArray, List.set_cons_zero, List.set_cons_succ]
  refine wpAnyH_take (i := 9) (v := .bool true) rfl (by kernel_rfl) (by kernel_rfl) (by kernel_rfl) (fun _ _ _ h => h) (Or.inl ⟨by rfl, ?y9a⟩) HSaw4.out ?r9a
  case y9a => (intro w' hSw; exact exec_eq (.tmp 14) (.tmp 19) _ (by rfl) _ H1.out (by rfl) (by rfl))
  simp only [List.getElem_toArray, List.getElem_cons_succ, List.getElem_cons_zero, Act.put, List.setIfInBounds_toArray, List.set_cons_zero, List.set_cons_succ]
  refine wpAnyH_take (i := 10) (v := ?v10a) rfl (by kernel_rfl) (by kernel_rfl) (by kernel_rfl) (fun _ _ _ h => h) (Or.inl ⟨by rfl, ?y10a⟩) HSaw4.out ?r10a
  case y10a => (intro w' hSw; clear hSw; go_simp; try with_reducible rfl)
  simp only [List.getElem_toArray, List.getElem_cons_succ, List.getElem_cons_zero, Act.put, List.setIfInBounds_toArray, List.set_cons_zero, List.set_cons_succ]
  refine wpAnyH_take (i := 11) (v := ?v11a) rfl (by kernel_rfl) (by kernel_rfl) (by kernel_rfl) (fun _ _ _ h => h) (Or.inl ⟨by rfl, ?y11a⟩) HSaw4.out ?r11a
  case y11a => (intro w' hSw; clear hSw; go_simp; try with_reducible rfl)
  simp only [List.getElem_toArray, List.getElem_cons_succ, List.getElem_cons_zero, Act.put, List.setIfInBounds_toArray, List.set_cons_zero, List.set_cons_succ]
  refine wpAnyH_take (i := 12) (v := .agg ss) rfl (by kernel_rfl) (by kernel_rfl) (by kernel_rfl) (fun _ _ _ h => h) (Or.inl ⟨by rfl, ?y12a⟩) HSaw4.out ?r12a
  case y12a => (intro w' hSw; exact exec_load (.tmp 6) (by rfl) b3 ss (by rfl) (hSw (b3, ss) (by simp)) (poly_sized HSS.out))
  simp only [List.getElem_toArray, List.getElem_cons_succ, List.getElem_cons_zero, Act.put, List.setIfInBounds_toArray, List.set_cons_zero, List.set_cons_succ]
  refine wpAnyH_take (i := 13) (v := .agg c1) rfl (by kernel_rfl) (by kernel_rfl) (by kernel_rfl) (fun _ _ _ h => h) (Or.inl ⟨by rfl, ?y13a⟩) HSaw4.out ?r13a
  case y13a => (intro w' hSw; exact exec_load (.tmp 3) (by rfl) b1 c1 (by rfl) (hSw (b1, c1) (by simp)) (poly_sized HP1.out))
  simp only [List.getElem_toArray, List.getElem_cons_succ, List.getElem_cons_zero, Act.put, List.setIfInBounds_toArray, List.set_cons_zero, List.set_cons_succ]
  refine wpAnyH_take (i := 15) (v := .agg c0) rfl (by kernel_rfl) (by kernel_rfl) (by kernel_rfl) (fun _ _ _ h => h) (Or.inl ⟨by rfl, ?y15a⟩) HSaw4.out ?r15a
  case y15a => (intro w' hSw; exact exec_load (.tmp 2) (by rfl) b0 c0 (by rfl) (hSw (b0, c0) (by simp)) (poly_sized HP0.out))
  simp only [List.getElem_toArray, List.getElem_cons_succ, List.getElem_cons_zero, Act.put, List.setIfInBounds_toArray, List.set_cons_zero, List.set_cons_succ]
  refine wpAnyH_ready (rs := [14]) (by kernel_rfl) (by simp) ?_
  refine AllReadyH.cons rfl (fun K hK => ?_) AllReadyH.nil
  simp only [List.getElem_toArray, List.getElem_cons_succ, List.getElem_cons_zero]
  go_simp
  refine (sub_any ss c1 _ x1 _ HSS.out HP1.out (fits_up _) HF1.out).mono ?_
  rintro e' aw5 ⟨d5, rfl, h, hB⟩
  have HSaw5 := Lib.hid (sx_below HSaw4.out (below_of_drew' hB))
  have HBaw5 := Lib.hid (HBaw4.out.trans ((below_of_drew' hB).mono HBaw4.out.size))
  clear hB
  rw [redp_up, mi_pl] at h
  have H5 := Lib.hid h
  clear h
  refine hK.out _ _ HSaw5.out (fun _ => ?_)
  clear hK K
  try simp only [List.getElem_toArray, List.getElem_cons_succ, List.getElem_cons_zero, Act.put, List.setIfInBounds_toArray, List.set_cons_zero, List.set_cons_succ]
  refine wpAnyH_ready (rs := [16]) (by kernel_rfl) (by simp) ?_
  refine AllReadyH.cons rfl (fun K hK => ?_) AllReadyH.nil
  simp only [List.getElem_toArray, List.getElem_cons_succ, List.getElem_cons_zero]
  go_simp
  refine (mod_any c0 x0 _ HP0.out HF0.out).mono ?_
  rintro e' aw6 ⟨d6, rfl, h, hB⟩
  have HSaw6 := Lib.hid (sx_below HSaw5.out (below_of_drew' hB))
  have HBaw6 := Lib.hid (HBaw5.out.trans ((below_of_drew' hB).mono HBaw5.out.size))
  clear hB
  obtain rfl : d5 = d6 := H5.out.same h (Eqv.refl _)
  clear h
  refine hK.out _ _ HSaw6.out (fun _ => ?_)
  clear hK K
  try simp only [List.getElem_toArray, List.getElem_cons_succ, List.getElem_cons_zero, Act.put, List.setIfInBounds_toArray, List.set_cons_zero, List.set_cons_succ]
  refine wpAnyH_take (i := 17) (v := .bool true) rfl (by kernel_rfl) (by kernel_rfl) (by kernel_rfl) (fun _ _ _ h => h) (Or.inl ⟨by rfl, ?y17a⟩) HSaw6.out ?r17a
  case y17a => (intro w' hSw; exact exec_eq (.tmp 25) (.tmp 27) _ (by rfl) _ H5.out (by rfl) (by rfl))
  simp only [List.getElem_toArray, List.getElem_cons_succ, List.getElem_cons_zero, Act.put, List.setIfInBounds_toArray, List.set_cons_zero, List.set_cons_succ]
  refine wpAnyH_take (i := 18) (v := ?v18a) rfl (by kernel_rfl) (by kernel_rfl) (by kernel_rfl) (fun _ _ _ h => h) (Or.inl ⟨by rfl, ?y18a⟩) HSaw6.out ?r18a
  case y18a => (intro w' hSw; clear hSw; go_simp; try with_reducible rfl)
  simp only [List.getElem_toArray, List.getElem_cons_succ, List.getElem_cons_zero, Act.put, List.setIfInBounds_toArray, List.set_cons_zero, List.set_cons_succ]
  refine wpAnyH_take (i := 19) (v := ?v19a) rfl (by kernel_rfl) (by kernel_rfl) (by kernel_rfl) (fun _ _ _ h => h) (Or.inl ⟨by rfl, ?y19a⟩) HSaw6.out ?r19a
  case y19a => (intro w' hSw; clear hSw; go_simp; try with_reducible rfl)
  simp only [List.getElem_toArray, List.getElem_cons_succ, List.getElem_cons_zero, Act.put, List.setIfInBounds_toArray, List.set_cons_zero, List.set_cons_succ]
  refine wpAnyH_take (i := 20) (v := .agg ss) rfl (by kernel_rfl) (by kernel_rfl) (by kernel_rfl) (fun _ _ _ h => h) (Or.inl ⟨by rfl, ?y20a⟩) HSaw6.out ?r20a
  case y20a => (intro w' hSw; exact exec_load (.tmp 6) (by rfl) b3 ss (by rfl) (hSw (b3, ss) (by simp)) (poly_sized HSS.out))
  simp only [List.getElem_toArray, List.getElem_cons_succ, List.getElem_cons_zero, Act.put, List.setIfInBounds_toArray, List.set_cons_zero, List.set_cons_succ]
  refine wpAnyH_take (i := 22) (v := .agg c0) rfl (by kernel_rfl) (by kernel_rfl) (by kernel_rfl) (fun _ _ _ h => h) (Or.inl ⟨by rfl, ?y22a⟩) HSaw6.out ?r22a
  case y22a => (intro w' hSw; exact exec_load (.tmp 2) (by rfl) b0 c0 (by rfl) (hSw (b0, c0) (by simp)) (poly_sized HP0.out))
  simp only [List.getElem_toArray, List.getElem_cons_succ, List.getElem_cons_zero, Act.put, List.setIfInBounds_toArray, List.set_cons_zero, List.set_cons_succ]
  refine wpAnyH_take (i := 24) (v := .agg c1) rfl (by kernel_rfl) (by kernel_rfl) (by kernel_rfl) (fun _ _ _ h => h) (Or.inl ⟨by rfl, ?y24a⟩) HSaw6.out ?r24a
  case y24a => (intro w' hSw; exact exec_load (.tmp 3) (by rfl) b1 c1 (by rfl) (hSw (b1, c1) (by simp)) (poly_sized HP1.out))
  simp only [List.getElem_toArray, List.getElem_cons_succ, List.getElem_cons_zero, Act.put, List.setIfInBounds_toArray, List.set_cons_zero, List.set_cons_succ]
  refine wpAnyH_ready (rs := [21]) (by kernel_rfl) (by simp) ?_
  refine AllReadyH.cons rfl (fun K hK => ?_) AllReadyH.nil
  simp only [List.getElem_toArray, List.getElem_cons_succ, List.getElem_cons_zero]
  go_simp
  refine (size_any ss _ _ HSS.out (fits_up _)).mono ?_
  rintro e' aw7 ⟨rfl, hB⟩
  have HSaw7 := Lib.hid (sx_below HSaw6.out (below_of_drew' hB))
  have HBaw7 := Lib.hid (HBaw6.out.trans ((below_of_drew' hB).mono HBaw6.out.size))
  clear hB
  rw [redp_up, KX.out]
  refine hK.out _ _ HSaw7.out (fun _ => ?_)
  clear hK K
  try simp only [List.getElem_toArray, List.getElem_cons_succ, List.getElem_cons_zero, Act.put, List.setIfInBounds_toArray, List.set_cons_zero, List.set_cons_succ]
  refine wpAnyH_ready (rs := [23]) (by kernel_rfl) (by simp) ?_
  refine AllReadyH.cons rfl (fun K hK => ?_) AllReadyH.nil
  simp only [List.getElem_toArray, List.getElem_cons_succ, List.getElem_cons_zero]
  go_simp
  refine (size_any c0 x0 _ HP0.out HF0.out).mono ?_
  rintro e' aw8 ⟨rfl, hB⟩
  have HSaw8 := Lib.hid (sx_below HSaw7.out (below_of_drew' hB))
  have HBaw8 := Lib.hid (HBaw7.out.trans ((below_of_drew' hB).mono HBaw7.out.size))
  clear hB
  rw [KY.out]
  refine hK.out _ _ HSaw8.out (fun _ => ?_)
  clear hK K
  try simp only [List.getElem_toArray, List.getElem_cons_succ, List.getElem_cons_zero, Act.put, List.setIfInBounds_toArray, List.set_cons_zero, List.set_cons_succ]
  refine wpAnyH_ready (rs := [25]) (by kernel_rfl) (by simp) ?_
  refine AllReadyH.cons rfl (fun K hK => ?_) AllReadyH.nil
  simp only [List.getElem_toArray, List.getElem_cons_succ, List.getElem_cons_zero]
  go_simp
  refine (size_any c1 x1 _ HP1.out HF1.out).mono ?_
  rintro e' aw9 ⟨rfl, hB⟩
  have HSaw9 := Lib.hid (sx_below HSaw8.out (below_of_drew' hB))
  have HBaw9 := Lib.hid (HBaw8.out.trans ((below_of_drew' hB).mono HBaw8.out.size))
  clear hB
  rw [KZ.out]
  refine hK.out _ _ HSaw9.out (fun _ => ?_)
  clear hK K
  try simp only [List.getElem_toArray, List.getElem_cons_succ, List.getElem_cons_zero, Act.put, List.setIfInBounds_toArray, List.set_cons_zero, List.set_cons_succ]
  refine wpAnyH_take (i := 26) (v := ?v26a) rfl (by kernel_rfl) (by kernel_rfl) (by kernel_rfl) (fun _ _ _ h => h) (Or.inl ⟨by rfl, ?y26a⟩) HSaw9.out ?r26a
  case y26a => (intro w' hSw; clear hSw; go_simp; try with_reducible rfl)
  simp only [List.getElem_toArray, List.getElem_cons_succ, List.getElem_cons_zero, Act.put, List.setIfInBounds_toArray, List.set_cons_zero, List.set_cons_succ]
  refine wpAnyH_take (i := 27) (v := .bool true) rfl (by kernel_rfl) (by kernel_rfl) (by kernel_rfl) (fun _ _ _ h => h) (Or.inl ⟨by rfl, ?y27a⟩) HSaw9.out ?r27a
  case y27a => (intro w' hSw; clear hSw; go_simp; try with_reducible rfl)
  simp only [List.getElem_toArray, List.getElem_cons_succ, List.getElem_cons_zero, Act.put, List.setIfInBounds_toArray, List.set_cons_zero, List.set_cons_succ]
  refine wpAnyH_take (i := 28) (v := ?v28a) rfl (by kernel_rfl) (by kernel_rfl) (by kernel_rfl) (fun _ _ _ h => h) (Or.inl ⟨by rfl, ?y28a⟩) HSaw9.out ?r28a
  case y28a => (intro w' hSw; clear hSw; go_simp; try with_reducible rfl)
  simp only [List.getElem_toArray, List.getElem_cons_succ, List.getElem_cons_zero, Act.put, List.setIfInBounds_toArray, List.set_cons_zero, List.set_cons_succ]
  refine wpAnyH_take (i := 29) (v := ?v29a) rfl (by kernel_rfl) (by kernel_rfl) (by kernel_rfl) (fun _ _ _ h => h) (Or.inl ⟨by rfl, ?y29a⟩) HSaw9.out ?r29a
  case y29a => (intro w' hSw; clear hSw; go_simp; try with_reducible rfl)
  simp only [List.getElem_toArray, List.getElem_cons_succ, List.getElem_cons_zero, Act.put, List.setIfInBounds_toArray, List.set_cons_zero, List.set_cons_succ]
  refine wpAnyH_take (i := 30) (v := .agg c0) rfl (by kernel_rfl) (by kernel_rfl) (by kernel_rfl) (fun _ _ _ h => h) (Or.inl ⟨by rfl, ?y30a⟩) HSaw9.out ?r30a
  case y30a => (intro w' hSw; exact exec_load (.tmp 2) (by rfl) b0 c0 (by rfl) (hSw (b0, c0) (by simp)) (poly_sized HP0.out))
  simp only [List.getElem_toArray, List.getElem_cons_succ, List.getElem_cons_zero, Act.put, List.setIfInBounds_toArray, List.set_cons_zero, List.set_cons_succ]
  refine wpAnyH_take (i := 31) (v := .agg c0) rfl (by kernel_rfl) (by kernel_rfl) (by kernel_rfl) (fun _ _ _ h => h) (Or.inl ⟨by rfl, ?y31a⟩) HSaw9.out ?r31a
  case y31a => (intro w' hSw; exact exec_load (.tmp 2) (by rfl) b0 c0 (by rfl) (hSw (b0, c0) (by simp)) (poly_sized HP0.out))
  simp only [List.getElem_toArray, List.getElem_cons_succ, List.getElem_cons_zero, Act.put, List.setIfInBounds_toArray, List.set_cons_zero, List.set_cons_succ]
  refine wpAnyH_take (i := 33) (v := .agg B) rfl (by kernel_rfl) (by kernel_rfl) (by kernel_rfl) (fun _ _ _ h => h) (Or.inl ⟨by rfl, ?y33a⟩) HSaw9.out ?r33a
  case y33a => (intro w' hSw; exact exec_build (by rfl) B HBB.out)
  simp only [List.getElem_toArray, List.getElem_cons_succ, List.getElem_cons_zero, Act.put, List.setIfInBounds_toArray, List.set_cons_zero, List.set_cons_succ]
  refine wpAnyH_ready (rs := [32]) (by kernel_rfl) (by simp) ?_
  refine AllReadyH.cons rfl (fun K hK => ?_) AllReadyH.nil
  simp only [List.getElem_toArray, List.getElem_cons_succ, List.getElem_cons_zero]
  go_simp
  refine (sub_any c0 c0 x0 x0 _ HP0.out HP0.out HF0.out HF0.out).mono ?_
  rintro e' aw10 ⟨d7, rfl, h, hB⟩
  have HSaw10 := Lib.hid (sx_below HSaw9.out (below_of_drew' hB))
  have HBaw10 := Lib.hid (HBaw9.out.trans ((below_of_drew' hB).mono HBaw9.out.size))
  clear hB
  obtain rfl : B = d7 := HBZ.out.one h (fun i _ => (mi_self _ i).symm)
  clear h
  refine hK.out _ _ HSaw10.out (fun _ => ?_)
  clear hK K
  try simp only [List.getElem_toArray, List.getElem_cons_succ, List.getElem_cons_zero, Act.put, List.setIfInBounds_toArray, List.set_cons_zero, List.set_cons_succ]
  refine wpAnyH_take (i := 34) (v := .bool true) rfl (by kernel_rfl) (by kernel_rfl) (by kernel_rfl) (fun _ _ _ h => h) (Or.inl ⟨by rfl, ?y34a⟩) HSaw10.out ?r34a
  case y34a => (intro w' hSw; exact exec_eq (.tmp 43) (.tmp 44) _ (by rfl) _ HBZ.out (by rfl) (by rfl))
  simp only [List.getElem_toArray, List.getElem_cons_succ, List.getElem_cons_zero, Act.put, List.setIfInBounds_toArray, List.set_cons_zero, List.set_cons_succ]
  refine wpAnyH_take (i := 35) (v := ?v35a) rfl (by kernel_rfl) (by kernel_rfl) (by kernel_rfl) (fun _ _ _ h => h) (Or.inl ⟨by rfl, ?y35a⟩) HSaw10.out ?r35a
  case y35a => (intro w' hSw; clear hSw; go_simp; try with_reducible rfl)
  simp only [List.getElem_toArray, List.getElem_cons_succ, List.getElem_cons_zero, Act.put, List.setIfInBounds_toArray, List.set_cons_zero, List.set_cons_succ]
  refine wpAnyH_take (i := 36) (v := ?v36a) rfl (by kernel_rfl) (by kernel_rfl) (by kernel_rfl) (fun _ _ _ h => h) (Or.inl ⟨by rfl, ?y36a⟩) HSaw10.out ?r36a
  case y36a => (intro w' hSw; clear hSw; go_simp; try with_reducible rfl)
  simp only [List.getElem_toArray, List.getElem_cons_succ, List.getElem_cons_zero, Act.put, List.setIfInBounds_toArray, List.set_cons_zero, List.set_cons_succ]
  refine wpAnyH_done (by kernel_rfl) ?_ _
  change Exit.then _ _ Exit.normal _ _
  go_wp2
  go_ret
  exact ⟨rfl, HBaw10.out⟩
end Go.Proofs.Ytaihlmedeebimaa.Lg
