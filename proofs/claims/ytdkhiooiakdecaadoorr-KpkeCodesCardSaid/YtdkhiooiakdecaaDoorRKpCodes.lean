/- Walks: KpkeCodes. Written by tools/mk_kpcodes.py. -/
import Derived.Test.YtdkhiooiakdecaaDoorRKpRefC
import Derived.Test.YtdkhiooiakdecaaDoorRKecRow
namespace Go.Proofs.YtdkhiooiakdecaaDoorR.Kp
set_option linter.all false
open Go.RowKit Iter Sm

theorem below_drewN (w : World) (n : Nat) : Below w.heap.size w (w.drewN n) := ⟨rfl, rfl, rfl, Nat.le_refl _, fun _ _ => rfl⟩
set_option maxHeartbeats 1000000 in
theorem great_any (A : Option Addr) (n c : Nat) (w : World) (hm : n ≤ 9223372036854775807) :
    Calls Tryd.prog 8 #[.slice A n c] w fun e w' => e = .returned (.bool (decide (3000 < n))) ∧ w' = w := by
  by_cases h : 3000 < n
  · have hd : decide (3000 < n) = true := decide_eq_true h
    have h2 : decide ((3000 : Int) < (n : Int)) = true := decide_eq_true (by omega)
    rw [hd]
    go_enter Tryd.func8, Tryd.ntmps8
    go_wp2
    go_ret
    exact ⟨rfl, rfl⟩
  · have hd : decide (3000 < n) = false := decide_eq_false h
    have h2 : decide ((3000 : Int) < (n : Int)) = false := decide_eq_false (by omega)
    rw [hd]
    go_enter Tryd.func8, Tryd.ntmps8
    go_wp2
    go_ret
    exact ⟨rfl, rfl⟩
set_option maxHeartbeats 8000000 in
set_option maxRecDepth 100000 in
theorem codes_walk (d m : Int) (A : Option Addr) (bs : List Nat) (n c : Nat) (cs : Array Value) (p : Nat → Int) (w : World) (h3 : -9223372036854775808 ≤ m) (h4 : m ≤ 9223372036854775807) (hR : Kec.Rd w w.heap.size A bs) (hn : bs.length = n) (hm : n ≤ 9223372036854775807) (hP : IsP cs p) (hF : Fits p) :
    Calls Tryd.prog 4 #[.int .i64 d, .int .i64 m, .agg cs, .slice A n c] w fun e w' => e = .returned (.bool true) ∧ Below w.heap.size w w' := by
  obtain ⟨Z, hz, hZ⟩ := zero_poly
  have HZ := Lib.hid hZ; have HP := Lib.hid hP; have HF := Lib.hid hF; have HR := Lib.hid hR; have HN := Lib.hid (fun _ : Unit => hn)
  have HG := Lib.hid (heap_alloc_last w (.cells cs 26))
  have HB0 := Lib.hid ((Below.refl w.heap.size w).alloc (Nat.le_refl _) (.cells cs 26))
  have HS0 := Lib.hid (show (w.alloc (.cells cs 26)).heap.size = w.heap.size + 1 by simp)
  obtain ⟨E, hE⟩ : ∃ E, decE d bs = E := ⟨_, rfl⟩
  obtain ⟨s, hs⟩ : ∃ s, squeezed d m = s := ⟨_, rfl⟩
  obtain ⟨t, ht⟩ : ∃ t, stretched d m = t := ⟨_, rfl⟩
  obtain ⟨L, hL⟩ : ∃ L, encD d p = L := ⟨_, rfl⟩
  have HE := Lib.hid hE
  have HSQ : Hid (∀ W, Calls Tryd.prog 15 #[.int .i64 d, .int .i64 m] W fun e w' => e = .returned (.int .i64 s) ∧ Below W.heap.size W w') := Lib.hid fun W => by
    rw [← hs]; exact (squeeze_any d m W h3 h4).mono fun e w' h => ⟨h.1, h.2 ▸ Below.refl _ _⟩
  have HRSQ : Hid (∀ W, Calls Tryd.prog 16 #[.int .i64 d, .int .i64 m] W fun e w' => e = .returned (.int .i64 s) ∧ Below W.heap.size W w') := Lib.hid fun W => by
    rw [← hs]; exact (rsqueeze_any d m W h3 h4).mono fun e w' h => ⟨h.1, by obtain ⟨k, hk⟩ := h.2; rw [hk]; exact below_drewN W k⟩
  have HST : Hid (∀ W, Calls Tryd.prog 17 #[.int .i64 d, .int .i64 m] W fun e w' => e = .returned (.int .i64 t) ∧ Below W.heap.size W w') := Lib.hid fun W => by
    rw [← ht]; exact (stretch_any d m W).mono fun e w' h => ⟨h.1, by obtain ⟨k, hk⟩ := h.2; rw [hk]; exact below_drewN W k⟩
  have HRST : Hid (∀ W, Calls Tryd.prog 18 #[.int .i64 d, .int .i64 m] W fun e w' => e = .returned (.int .i64 t) ∧ Below W.heap.size W w') := Lib.hid fun W => by
    rw [← ht]; exact (rstretch_any d m W h3 h4).mono fun e w' h => ⟨h.1, by obtain ⟨k, hk⟩ := h.2; rw [hk]; exact below_drewN W k⟩
  have HEN : Hid (∀ W, Calls Tryd.prog 19 #[.int .i64 d, .agg cs] W (Kec.Told L W)) := Lib.hid fun W => by rw [← hL]; exact encode_told d cs p W hP hF
  have HREN : Hid (∀ W, Calls Tryd.prog 20 #[.int .i64 d, .agg cs] W (Kec.Told L W)) := Lib.hid fun W => by rw [← hL]; exact rencode_told d cs p W hP hF
  clear hZ hP hF hR hn hE hs ht hL
  go_enter Tryd.func4, Tryd.ntmps4
  go_wp2_with fail
  refine (head_any _).mono ?_
  rintro e' w1 ⟨rfl, hB⟩
  have HB1 := Lib.hid (HB0.out.trans (hB.mono HB0.out.size))
  have HG1 := Lib.hid ((hB.block w.heap.size (by have := HS0.out; omega)).trans HG.out)
  clear hB HB0 HG HS0
  go_wp2_with fail
  refine (great_any A n c _ hm).mono ?_
  rintro e' w1' ⟨rfl, hw⟩
  subst hw
  by_cases hgr : 3000 < n
  · rw [decide_eq_true hgr]
    go_wp2
    go_ret
    exact ⟨rfl, HB1.out⟩
  rw [decide_eq_false hgr]
  go_wp2_with fail
  refine (decode_any d A bs n c _ ((HR.out.below HB1.out).more HB1.out.size) (HN.out ()) hm).mono ?_
  rintro e' w2 ⟨xs, rfl, hX, hB⟩
  have HX := Lib.hid hX
  have HB2 := Lib.hid (HB1.out.trans (hB.mono HB1.out.size))
  have HG2 := Lib.hid ((hB.block w.heap.size (Array.getElem?_eq_some_iff.1 HG1.out).1).trans HG1.out)
  clear hB hX HB1 HG1
  rw [HE.out]
  go_wp2_with (refine wpList_store_row rfl 26 (.tmp 10) (.tmp 22) rfl w2.heap.size xs rfl rfl 26 Z (heap_alloc_last w2 _) (poly_sized HX.out) (by rw [HZ.out.1, HX.out.1]) HX.out.cells ?_)
  rw [World.setRow_alloc_new]
  have hb3 := (Below.refl w2.heap.size w2).alloc (Nat.le_refl _) (.cells xs 26)
  have HXL := Lib.hid (heap_alloc_last w2 (.cells xs 26))
  have HG3 := Lib.hid ((hb3.block w.heap.size (Array.getElem?_eq_some_iff.1 HG2.out).1).trans HG2.out)
  have HB3 := Lib.hid (HB2.out.trans (hb3.mono HB2.out.size))
  obtain ⟨D, hD⟩ : ∃ D, w2.heap.size = D := ⟨_, rfl⟩
  obtain ⟨w3, hw3⟩ : ∃ w3, w2.alloc (.cells xs 26) = w3 := ⟨_, rfl⟩
  rw [hw3] at HXL HG3 HB3
  rw [hD] at HXL
  rw [hw3, hD]
  clear hb3 hw3 hD HG2 HB2
  go_wp2_with fail
  refine (rdecode_any d A bs n c _ ((HR.out.below HB3.out).more HB3.out.size) (HN.out ()) hm).mono ?_
  rintro e' w4 ⟨ys, rfl, hY, hB⟩
  obtain rfl : ys = xs := hY.one HX.out fun i hi => rfl
  have HB4 := Lib.hid (HB3.out.trans (hB.mono HB3.out.size))
  have HG4 := Lib.hid ((hB.block w.heap.size (Array.getElem?_eq_some_iff.1 HG3.out).1).trans HG3.out)
  have HX4 := Lib.hid ((hB.block D (Array.getElem?_eq_some_iff.1 HXL.out).1).trans HXL.out)
  clear hB hY HB3 HG3 HXL
  rw [HE.out]
  go_wp2_with (refine wpList_store_row rfl 26 (.tmp 12) (.tmp 28) rfl w4.heap.size ys rfl rfl 26 Z (heap_alloc_last w4 _) (poly_sized HX.out) (by rw [HZ.out.1, HX.out.1]) HX.out.cells ?_)
  rw [World.setRow_alloc_new]
  have hb5 := (Below.refl w4.heap.size w4).alloc (Nat.le_refl _) (.cells ys 26)
  have HYL := Lib.hid (heap_alloc_last w4 (.cells ys 26))
  have HG5 := Lib.hid ((hb5.block w.heap.size (Array.getElem?_eq_some_iff.1 HG4.out).1).trans HG4.out)
  have HX5 := Lib.hid ((hb5.block D (Array.getElem?_eq_some_iff.1 HX4.out).1).trans HX4.out)
  have HB5 := Lib.hid (HB4.out.trans (hb5.mono HB4.out.size))
  obtain ⟨D2, hD⟩ : ∃ D2, w4.heap.size = D2 := ⟨_, rfl⟩
  obtain ⟨w5, hw5⟩ : ∃ w5, w4.alloc (.cells ys 26) = w5 := ⟨_, rfl⟩
  rw [hw5] at HYL HG5 HB5 HX5
  rw [hD] at HYL
  rw [hw5, hD]
  clear hb5 hw5 hD HG4 HB4 HX4
  go_wp2_with fail
  have HXd := Lib.hid (show w5.drew.heap[D]? = _ from HX5.out); have HYd := Lib.hid (show w5.drew.heap[D2]? = _ from HYL.out); have HGd := Lib.hid (show w5.drew.heap[w.heap.size]? = _ from HG5.out); have HBd := Lib.hid (Below.drew HB5.out)
  refine region_calm ?_
  refine wp_region_any (by kernel_rfl) ?_
  change wpAny _ _ _ _ _ _ _ (World.drew w5)
  refine wpAny_of_held (S := fun w' => w'.heap[w.heap.size]? = some (.cells cs 26 (0, 0)) ∧ w'.heap[D]? = some (.cells ys 26 (0, 0)) ∧ w'.heap[D2]? = some (.cells ys 26 (0, 0))) _ _ _ _ ?_
  refine wpAnyH_take (i := 0) (v := ?v0g1) rfl (by kernel_rfl) (by kernel_rfl) (by kernel_rfl) (fun _ _ _ h => h) (Or.inl ⟨by rfl, ?y0g1⟩) ⟨HGd.out, HXd.out, HYd.out⟩ ?r0g1
  case y0g1 => (intro w' hSw; clear hSw; go_simp; try with_reducible rfl)
  simp only [List.getElem_toArray, List.getElem_cons_succ, List.getElem_cons_zero, Act.put, List.setIfInBounds_toArray, List.set_cons_zero, List.set_cons_succ]
  refine wpAnyH_take (i := 1) (v := ?v1g1) rfl (by kernel_rfl) (by kernel_rfl) (by kernel_rfl) (fun _ _ _ h => h) (Or.inl ⟨by rfl, ?y1g1⟩) ⟨HGd.out, HXd.out, HYd.out⟩ ?r1g1
  case y1g1 => (intro w' hSw; clear hSw; go_simp; try with_reducible rfl)
  simp only [List.getElem_toArray, List.getElem_cons_succ, List.getElem_cons_zero, Act.put, List.setIfInBounds_toArray, List.set_cons_zero, List.set_cons_succ]
  refine wpAnyH_take (i := 2) (v := ?v2g1) rfl (by kernel_rfl) (by kernel_rfl) (by kernel_rfl) (fun _ _ _ h => h) (Or.inl ⟨by rfl, ?y2g1⟩) ⟨HGd.out, HXd.out, HYd.out⟩ ?r2g1
  case y2g1 => (intro w' hSw; clear hSw; go_simp; try with_reducible rfl)
  simp only [List.getElem_toArray, List.getElem_cons_succ, List.getElem_cons_zero, Act.put, List.setIfInBounds_toArray, List.set_cons_zero, List.set_cons_succ]
  refine wpAnyH_take (i := 3) (v := ?v3g1) rfl (by kernel_rfl) (by kernel_rfl) (by kernel_rfl) (fun _ _ _ h => h) (Or.inl ⟨by rfl, ?y3g1⟩) ⟨HGd.out, HXd.out, HYd.out⟩ ?r3g1
  case y3g1 => (intro w' hSw; clear hSw; go_simp; try with_reducible rfl)
  simp only [List.getElem_toArray, List.getElem_cons_succ, List.getElem_cons_zero, Act.put, List.setIfInBounds_toArray, List.set_cons_zero, List.set_cons_succ]
  refine wpAnyH_take (i := 5) (v := ?v5g1) rfl (by kernel_rfl) (by kernel_rfl) (by kernel_rfl) (fun _ _ _ h => h) (Or.inl ⟨by rfl, ?y5g1⟩) ⟨HGd.out, HXd.out, HYd.out⟩ ?r5g1
  case y5g1 => (intro w' hSw; clear hSw; go_simp; try with_reducible rfl)
  simp only [List.getElem_toArray, List.getElem_cons_succ, List.getElem_cons_zero, Act.put, List.setIfInBounds_toArray, List.set_cons_zero, List.set_cons_succ]
  refine wpAnyH_take (i := 6) (v := ?v6g1) rfl (by kernel_rfl) (by kernel_rfl) (by kernel_rfl) (fun _ _ _ h => h) (Or.inl ⟨by rfl, ?y6g1⟩) ⟨HGd.out, HXd.out, HYd.out⟩ ?r6g1
  case y6g1 => (intro w' hSw; clear hSw; go_simp; try with_reducible rfl)
  simp only [List.getElem_toArray, List.getElem_cons_succ, List.getElem_cons_zero, Act.put, List.setIfInBounds_toArray, List.set_cons_zero, List.set_cons_succ]
  refine wpAnyH_ready (rs := [4]) (by kernel_rfl) (by simp) ?_
  refine AllReadyH.cons rfl (fun K hK => ?_) AllReadyH.nil
  simp only [List.getElem_toArray, List.getElem_cons_succ, List.getElem_cons_zero]
  go_simp
  refine (HSQ.out _).mono ?_
  rintro e' wg11 ⟨rfl, hB⟩
  skip
  have Hg11x0 := Lib.hid ((hB.block _ (Array.getElem?_eq_some_iff.1 HGd.out).1).trans HGd.out)
  have Hg11x1 := Lib.hid ((hB.block _ (Array.getElem?_eq_some_iff.1 HXd.out).1).trans HXd.out)
  have Hg11x2 := Lib.hid ((hB.block _ (Array.getElem?_eq_some_iff.1 HYd.out).1).trans HYd.out)
  have HBg11 := Lib.hid (HBd.out.trans (hB.mono HBd.out.size))
  clear hB
  refine hK.out _ _ ⟨Hg11x0.out, Hg11x1.out, Hg11x2.out⟩ (fun _ => ?_)
  clear hK K
  try simp only [List.getElem_toArray, List.getElem_cons_succ, List.getElem_cons_zero, Act.put, List.setIfInBounds_toArray, List.set_cons_zero, List.set_cons_succ]
  refine wpAnyH_ready (rs := [7]) (by kernel_rfl) (by simp) ?_
  refine AllReadyH.cons rfl (fun K hK => ?_) AllReadyH.nil
  simp only [List.getElem_toArray, List.getElem_cons_succ, List.getElem_cons_zero]
  go_simp
  refine (HRSQ.out _).mono ?_
  rintro e' wg12 ⟨rfl, hB⟩
  skip
  have Hg12x0 := Lib.hid ((hB.block _ (Array.getElem?_eq_some_iff.1 Hg11x0.out).1).trans Hg11x0.out)
  have Hg12x1 := Lib.hid ((hB.block _ (Array.getElem?_eq_some_iff.1 Hg11x1.out).1).trans Hg11x1.out)
  have Hg12x2 := Lib.hid ((hB.block _ (Array.getElem?_eq_some_iff.1 Hg11x2.out).1).trans Hg11x2.out)
  have HBg12 := Lib.hid (HBg11.out.trans (hB.mono HBg11.out.size))
  clear hB
  refine hK.out _ _ ⟨Hg12x0.out, Hg12x1.out, Hg12x2.out⟩ (fun _ => ?_)
  clear hK K
  try simp only [List.getElem_toArray, List.getElem_cons_succ, List.getElem_cons_zero, Act.put, List.setIfInBounds_toArray, List.set_cons_zero, List.set_cons_succ]
  refine wpAnyH_take (i := 8) (v := ?v8g1) rfl (by kernel_rfl) (by kernel_rfl) (by kernel_rfl) (fun _ _ _ h => h) (Or.inl ⟨by rfl, ?y8g1⟩) ⟨Hg12x0.out, Hg12x1.out, Hg12x2.out⟩ ?r8g1
  case y8g1 => (intro w' hSw; clear hSw; go_simp; try with_reducible rfl)
  simp only [List.getElem_toArray, List.getElem_cons_succ, List.getElem_cons_zero, Act.put, List.setIfInBounds_toArray, List.set_cons_zero, List.set_cons_succ]
  refine wpAnyH_take (i := 9) (v := ?v9g1) rfl (by kernel_rfl) (by kernel_rfl) (by kernel_rfl) (fun _ _ _ h => h) (Or.inl ⟨by rfl, ?y9g1⟩) ⟨Hg12x0.out, Hg12x1.out, Hg12x2.out⟩ ?r9g1
  case y9g1 => (intro w' hSw; clear hSw; go_simp; try with_reducible rfl)
  simp only [List.getElem_toArray, List.getElem_cons_succ, List.getElem_cons_zero, Act.put, List.setIfInBounds_toArray, List.set_cons_zero, List.set_cons_succ]
  refine wpAnyH_take (i := 10) (v := ?v10g1) rfl (by kernel_rfl) (by kernel_rfl) (by kernel_rfl) (fun _ _ _ h => h) (Or.inl ⟨by rfl, ?y10g1⟩) ⟨Hg12x0.out, Hg12x1.out, Hg12x2.out⟩ ?r10g1
  case y10g1 => (intro w' hSw; clear hSw; go_simp; try with_reducible rfl)
  simp only [List.getElem_toArray, List.getElem_cons_succ, List.getElem_cons_zero, Act.put, List.setIfInBounds_toArray, List.set_cons_zero, List.set_cons_succ]
  refine wpAnyH_take (i := 11) (v := ?v11g1) rfl (by kernel_rfl) (by kernel_rfl) (by kernel_rfl) (fun _ _ _ h => h) (Or.inl ⟨by rfl, ?y11g1⟩) ⟨Hg12x0.out, Hg12x1.out, Hg12x2.out⟩ ?r11g1
  case y11g1 => (intro w' hSw; clear hSw; go_simp; try with_reducible rfl)
  simp only [List.getElem_toArray, List.getElem_cons_succ, List.getElem_cons_zero, Act.put, List.setIfInBounds_toArray, List.set_cons_zero, List.set_cons_succ]
  refine wpAnyH_take (i := 12) (v := ?v12g1) rfl (by kernel_rfl) (by kernel_rfl) (by kernel_rfl) (fun _ _ _ h => h) (Or.inl ⟨by rfl, ?y12g1⟩) ⟨Hg12x0.out, Hg12x1.out, Hg12x2.out⟩ ?r12g1
  case y12g1 => (intro w' hSw; clear hSw; go_simp; try with_reducible rfl)
  simp only [List.getElem_toArray, List.getElem_cons_succ, List.getElem_cons_zero, Act.put, List.setIfInBounds_toArray, List.set_cons_zero, List.set_cons_succ]
  refine wpAnyH_take (i := 14) (v := ?v14g1) rfl (by kernel_rfl) (by kernel_rfl) (by kernel_rfl) (fun _ _ _ h => h) (Or.inl ⟨by rfl, ?y14g1⟩) ⟨Hg12x0.out, Hg12x1.out, Hg12x2.out⟩ ?r14g1
  case y14g1 => (intro w' hSw; clear hSw; go_simp; try with_reducible rfl)
  simp only [List.getElem_toArray, List.getElem_cons_succ, List.getElem_cons_zero, Act.put, List.setIfInBounds_toArray, List.set_cons_zero, List.set_cons_succ]
  refine wpAnyH_take (i := 15) (v := ?v15g1) rfl (by kernel_rfl) (by kernel_rfl) (by kernel_rfl) (fun _ _ _ h => h) (Or.inl ⟨by rfl, ?y15g1⟩) ⟨Hg12x0.out, Hg12x1.out, Hg12x2.out⟩ ?r15g1
  case y15g1 => (intro w' hSw; clear hSw; go_simp; try with_reducible rfl)
  simp only [List.getElem_toArray, List.getElem_cons_succ, List.getElem_cons_zero, Act.put, List.setIfInBounds_toArray, List.set_cons_zero, List.set_cons_succ]
  refine wpAnyH_ready (rs := [13]) (by kernel_rfl) (by simp) ?_
  refine AllReadyH.cons rfl (fun K hK => ?_) AllReadyH.nil
  simp only [List.getElem_toArray, List.getElem_cons_succ, List.getElem_cons_zero]
  go_simp
  refine (HST.out _).mono ?_
  rintro e' wg13 ⟨rfl, hB⟩
  skip
  have Hg13x0 := Lib.hid ((hB.block _ (Array.getElem?_eq_some_iff.1 Hg12x0.out).1).trans Hg12x0.out)
  have Hg13x1 := Lib.hid ((hB.block _ (Array.getElem?_eq_some_iff.1 Hg12x1.out).1).trans Hg12x1.out)
  have Hg13x2 := Lib.hid ((hB.block _ (Array.getElem?_eq_some_iff.1 Hg12x2.out).1).trans Hg12x2.out)
  have HBg13 := Lib.hid (HBg12.out.trans (hB.mono HBg12.out.size))
  clear hB
  refine hK.out _ _ ⟨Hg13x0.out, Hg13x1.out, Hg13x2.out⟩ (fun _ => ?_)
  clear hK K
  try simp only [List.getElem_toArray, List.getElem_cons_succ, List.getElem_cons_zero, Act.put, List.setIfInBounds_toArray, List.set_cons_zero, List.set_cons_succ]
  refine wpAnyH_ready (rs := [16]) (by kernel_rfl) (by simp) ?_
  refine AllReadyH.cons rfl (fun K hK => ?_) AllReadyH.nil
  simp only [List.getElem_toArray, List.getElem_cons_succ, List.getElem_cons_zero]
  go_simp
  refine (HRST.out _).mono ?_
  rintro e' wg14 ⟨rfl, hB⟩
  skip
  have Hg14x0 := Lib.hid ((hB.block _ (Array.getElem?_eq_some_iff.1 Hg13x0.out).1).trans Hg13x0.out)
  have Hg14x1 := Lib.hid ((hB.block _ (Array.getElem?_eq_some_iff.1 Hg13x1.out).1).trans Hg13x1.out)
  have Hg14x2 := Lib.hid ((hB.block _ (Array.getElem?_eq_some_iff.1 Hg13x2.out).1).trans Hg13x2.out)
  have HBg14 := Lib.hid (HBg13.out.trans (hB.mono HBg13.out.size))
  clear hB
  refine hK.out _ _ ⟨Hg14x0.out, Hg14x1.out, Hg14x2.out⟩ (fun _ => ?_)
  clear hK K
  try simp only [List.getElem_toArray, List.getElem_cons_succ, List.getElem_cons_zero, Act.put, List.setIfInBounds_toArray, List.set_cons_zero, List.set_cons_succ]
  refine wpAnyH_take (i := 17) (v := ?v17g1) rfl (by kernel_rfl) (by kernel_rfl) (by kernel_rfl) (fun _ _ _ h => h) (Or.inl ⟨by rfl, ?y17g1⟩) ⟨Hg14x0.out, Hg14x1.out, Hg14x2.out⟩ ?r17g1
  case y17g1 => (intro w' hSw; clear hSw; go_simp; try with_reducible rfl)
  simp only [List.getElem_toArray, List.getElem_cons_succ, List.getElem_cons_zero, Act.put, List.setIfInBounds_toArray, List.set_cons_zero, List.set_cons_succ]
  refine wpAnyH_take (i := 18) (v := ?v18g1) rfl (by kernel_rfl) (by kernel_rfl) (by kernel_rfl) (fun _ _ _ h => h) (Or.inl ⟨by rfl, ?y18g1⟩) ⟨Hg14x0.out, Hg14x1.out, Hg14x2.out⟩ ?r18g1
  case y18g1 => (intro w' hSw; clear hSw; go_simp; try with_reducible rfl)
  simp only [List.getElem_toArray, List.getElem_cons_succ, List.getElem_cons_zero, Act.put, List.setIfInBounds_toArray, List.set_cons_zero, List.set_cons_succ]
  refine wpAnyH_take (i := 19) (v := ?v19g1) rfl (by kernel_rfl) (by kernel_rfl) (by kernel_rfl) (fun _ _ _ h => h) (Or.inl ⟨by rfl, ?y19g1⟩) ⟨Hg14x0.out, Hg14x1.out, Hg14x2.out⟩ ?r19g1
  case y19g1 => (intro w' hSw; clear hSw; go_simp; try with_reducible rfl)
  simp only [List.getElem_toArray, List.getElem_cons_succ, List.getElem_cons_zero, Act.put, List.setIfInBounds_toArray, List.set_cons_zero, List.set_cons_succ]
  refine wpAnyH_take (i := 20) (v := ?v20g1) rfl (by kernel_rfl) (by kernel_rfl) (by kernel_rfl) (fun _ _ _ h => h) (Or.inl ⟨by rfl, ?y20g1⟩) ⟨Hg14x0.out, Hg14x1.out, Hg14x2.out⟩ ?r20g1
  case y20g1 => (intro w' hSw; clear hSw; go_simp; try with_reducible rfl)
  simp only [List.getElem_toArray, List.getElem_cons_succ, List.getElem_cons_zero, Act.put, List.setIfInBounds_toArray, List.set_cons_zero, List.set_cons_succ]
  refine wpAnyH_take (i := 21) (v := .agg cs) rfl (by kernel_rfl) (by kernel_rfl) (by kernel_rfl) (fun _ _ _ h => h) (Or.inl ⟨by rfl, ?y21g1⟩) ⟨Hg14x0.out, Hg14x1.out, Hg14x2.out⟩ ?r21g1
  case y21g1 => (intro w' hSw; exact exec_load (.tmp 6) (by rfl) w.heap.size cs (by rfl) hSw.1 (poly_sized HP.out))
  simp only [List.getElem_toArray, List.getElem_cons_succ, List.getElem_cons_zero, Act.put, List.setIfInBounds_toArray, List.set_cons_zero, List.set_cons_succ]
  refine wpAnyH_take (i := 24) (v := ?v24g1) rfl (by kernel_rfl) (by kernel_rfl) (by kernel_rfl) (fun _ _ _ h => h) (Or.inl ⟨by rfl, ?y24g1⟩) ⟨Hg14x0.out, Hg14x1.out, Hg14x2.out⟩ ?r24g1
  case y24g1 => (intro w' hSw; clear hSw; go_simp; try with_reducible rfl)
  simp only [List.getElem_toArray, List.getElem_cons_succ, List.getElem_cons_zero, Act.put, List.setIfInBounds_toArray, List.set_cons_zero, List.set_cons_succ]
  refine wpAnyH_take (i := 25) (v := .agg cs) rfl (by kernel_rfl) (by kernel_rfl) (by kernel_rfl) (fun _ _ _ h => h) (Or.inl ⟨by rfl, ?y25g1⟩) ⟨Hg14x0.out, Hg14x1.out, Hg14x2.out⟩ ?r25g1
  case y25g1 => (intro w' hSw; exact exec_load (.tmp 6) (by rfl) w.heap.size cs (by rfl) hSw.1 (poly_sized HP.out))
  simp only [List.getElem_toArray, List.getElem_cons_succ, List.getElem_cons_zero, Act.put, List.setIfInBounds_toArray, List.set_cons_zero, List.set_cons_succ]
  refine wpAnyH_ready (rs := [22]) (by kernel_rfl) (by simp) ?_
  refine AllReadyH.cons rfl (fun K hK => ?_) AllReadyH.nil
  simp only [List.getElem_toArray, List.getElem_cons_succ, List.getElem_cons_zero]
  go_simp
  refine (HEN.out _).mono ?_
  rintro e' wg15 ⟨v22, rfl, hh, hB⟩
  obtain ⟨A22, n22, c22, rfl, -⟩ := id hh
  have HH22 := Lib.hid hh
  clear hh
  have Hg15x0 := Lib.hid ((hB.block _ (Array.getElem?_eq_some_iff.1 Hg14x0.out).1).trans Hg14x0.out)
  have Hg15x1 := Lib.hid ((hB.block _ (Array.getElem?_eq_some_iff.1 Hg14x1.out).1).trans Hg14x1.out)
  have Hg15x2 := Lib.hid ((hB.block _ (Array.getElem?_eq_some_iff.1 Hg14x2.out).1).trans Hg14x2.out)
  have HBg15 := Lib.hid (HBg14.out.trans (hB.mono HBg14.out.size))
  clear hB
  refine hK.out _ _ ⟨Hg15x0.out, Hg15x1.out, Hg15x2.out⟩ (fun _ => ?_)
  clear hK K
  try simp only [List.getElem_toArray, List.getElem_cons_succ, List.getElem_cons_zero, Act.put, List.setIfInBounds_toArray, List.set_cons_zero, List.set_cons_succ]
  refine Kec.wpAnyH_more (S' := fun w' => (convert 22 9 (.slice A22 n22 c22)).run Tryd.prog w' = .ok (.string (Kec.txt L)) w' ∧ w'.heap[w.heap.size]? = some (.cells cs 26 (0, 0)) ∧ w'.heap[D]? = some (.cells ys 26 (0, 0)) ∧ w'.heap[D2]? = some (.cells ys 26 (0, 0))) (fun _ h => h.2) _ _ _ _ ?_
  refine wpAnyH_take (i := 23) (v := ?v23g1) rfl (by kernel_rfl) (by kernel_rfl) (by kernel_rfl) (fun _ _ _ h => h) (Or.inl ⟨by rfl, ?y23g1⟩) ⟨HH22.out.conv, Hg15x0.out, Hg15x1.out, Hg15x2.out⟩ ?r23g1
  case y23g1 => (intro w' hSw; have s1 := hSw.1; (try dsimp only at s1); clear hSw; go_simp; try with_reducible rfl)
  simp only [List.getElem_toArray, List.getElem_cons_succ, List.getElem_cons_zero, Act.put, List.setIfInBounds_toArray, List.set_cons_zero, List.set_cons_succ]
  refine wpAnyH_ready (rs := [26]) (by kernel_rfl) (by simp) ?_
  refine AllReadyH.cons rfl (fun K hK => ?_) AllReadyH.nil
  simp only [List.getElem_toArray, List.getElem_cons_succ, List.getElem_cons_zero]
  go_simp
  refine (HREN.out _).mono ?_
  rintro e' wg16 ⟨v26, rfl, hh, hB⟩
  obtain ⟨A26, n26, c26, rfl, -⟩ := id hh
  have HH26 := Lib.hid hh
  clear hh
  have Hg16x0 := Lib.hid (HH22.out.below hB)
  have Hg16x1 := Lib.hid ((hB.block _ (Array.getElem?_eq_some_iff.1 Hg15x0.out).1).trans Hg15x0.out)
  have Hg16x2 := Lib.hid ((hB.block _ (Array.getElem?_eq_some_iff.1 Hg15x1.out).1).trans Hg15x1.out)
  have Hg16x3 := Lib.hid ((hB.block _ (Array.getElem?_eq_some_iff.1 Hg15x2.out).1).trans Hg15x2.out)
  have HBg16 := Lib.hid (HBg15.out.trans (hB.mono HBg15.out.size))
  clear hB
  refine hK.out _ _ ⟨Hg16x0.out.conv, Hg16x1.out, Hg16x2.out, Hg16x3.out⟩ (fun _ => ?_)
  clear hK K
  try simp only [List.getElem_toArray, List.getElem_cons_succ, List.getElem_cons_zero, Act.put, List.setIfInBounds_toArray, List.set_cons_zero, List.set_cons_succ]
  refine Kec.wpAnyH_more (S' := fun w' => (convert 22 9 (.slice A26 n26 c26)).run Tryd.prog w' = .ok (.string (Kec.txt L)) w' ∧ (convert 22 9 (.slice A22 n22 c22)).run Tryd.prog w' = .ok (.string (Kec.txt L)) w' ∧ w'.heap[w.heap.size]? = some (.cells cs 26 (0, 0)) ∧ w'.heap[D]? = some (.cells ys 26 (0, 0)) ∧ w'.heap[D2]? = some (.cells ys 26 (0, 0))) (fun _ h => h.2) _ _ _ _ ?_
  refine wpAnyH_take (i := 27) (v := ?v27g1) rfl (by kernel_rfl) (by kernel_rfl) (by kernel_rfl) (fun _ _ _ h => h) (Or.inl ⟨by rfl, ?y27g1⟩) ⟨HH26.out.conv, Hg16x0.out.conv, Hg16x1.out, Hg16x2.out, Hg16x3.out⟩ ?r27g1
  case y27g1 => (intro w' hSw; have s1 := hSw.1; (try dsimp only at s1); clear hSw; go_simp; try with_reducible rfl)
  simp only [List.getElem_toArray, List.getElem_cons_succ, List.getElem_cons_zero, Act.put, List.setIfInBounds_toArray, List.set_cons_zero, List.set_cons_succ]
  refine wpAnyH_take (i := 28) (v := ?v28g1) rfl (by kernel_rfl) (by kernel_rfl) (by kernel_rfl) (fun _ _ _ h => h) (Or.inl ⟨by rfl, ?y28g1⟩) ⟨HH26.out.conv, Hg16x0.out.conv, Hg16x1.out, Hg16x2.out, Hg16x3.out⟩ ?r28g1
  case y28g1 => (intro w' hSw; clear hSw; go_simp; try with_reducible rfl)
  simp only [List.getElem_toArray, List.getElem_cons_succ, List.getElem_cons_zero, Act.put, List.setIfInBounds_toArray, List.set_cons_zero, List.set_cons_succ]
  refine wpAnyH_take (i := 29) (v := ?v29g1) rfl (by kernel_rfl) (by kernel_rfl) (by kernel_rfl) (fun _ _ _ h => h) (Or.inl ⟨by rfl, ?y29g1⟩) ⟨HH26.out.conv, Hg16x0.out.conv, Hg16x1.out, Hg16x2.out, Hg16x3.out⟩ ?r29g1
  case y29g1 => (intro w' hSw; clear hSw; go_simp; try with_reducible rfl)
  simp only [List.getElem_toArray, List.getElem_cons_succ, List.getElem_cons_zero, Act.put, List.setIfInBounds_toArray, List.set_cons_zero, List.set_cons_succ]
  refine wpAnyH_take (i := 30) (v := ?v30g1) rfl (by kernel_rfl) (by kernel_rfl) (by kernel_rfl) (fun _ _ _ h => h) (Or.inl ⟨by rfl, ?y30g1⟩) ⟨HH26.out.conv, Hg16x0.out.conv, Hg16x1.out, Hg16x2.out, Hg16x3.out⟩ ?r30g1
  case y30g1 => (intro w' hSw; clear hSw; go_simp; try with_reducible rfl)
  simp only [List.getElem_toArray, List.getElem_cons_succ, List.getElem_cons_zero, Act.put, List.setIfInBounds_toArray, List.set_cons_zero, List.set_cons_succ]
  refine wpAnyH_take (i := 31) (v := .agg ys) rfl (by kernel_rfl) (by kernel_rfl) (by kernel_rfl) (fun _ _ _ h => h) (Or.inl ⟨by rfl, ?y31g1⟩) ⟨HH26.out.conv, Hg16x0.out.conv, Hg16x1.out, Hg16x2.out, Hg16x3.out⟩ ?r31g1
  case y31g1 => (intro w' hSw; exact exec_load (.tmp 10) (by rfl) D ys (by rfl) hSw.2.2.2.1 (poly_sized HX.out))
  simp only [List.getElem_toArray, List.getElem_cons_succ, List.getElem_cons_zero, Act.put, List.setIfInBounds_toArray, List.set_cons_zero, List.set_cons_succ]
  refine wpAnyH_take (i := 32) (v := .agg ys) rfl (by kernel_rfl) (by kernel_rfl) (by kernel_rfl) (fun _ _ _ h => h) (Or.inl ⟨by rfl, ?y32g1⟩) ⟨HH26.out.conv, Hg16x0.out.conv, Hg16x1.out, Hg16x2.out, Hg16x3.out⟩ ?r32g1
  case y32g1 => (intro w' hSw; exact exec_load (.tmp 12) (by rfl) D2 ys (by rfl) hSw.2.2.2.2 (poly_sized HX.out))
  simp only [List.getElem_toArray, List.getElem_cons_succ, List.getElem_cons_zero, Act.put, List.setIfInBounds_toArray, List.set_cons_zero, List.set_cons_succ]
  refine wpAnyH_take (i := 33) (v := .bool true) rfl (by kernel_rfl) (by kernel_rfl) (by kernel_rfl) (fun _ _ _ h => h) (Or.inl ⟨by rfl, ?y33g1⟩) ⟨HH26.out.conv, Hg16x0.out.conv, Hg16x1.out, Hg16x2.out, Hg16x3.out⟩ ?r33g1
  case y33g1 => (intro w' hSw; exact exec_eq (.tmp 61) (.tmp 62) _ (by rfl) _ HX.out (by rfl) (by rfl))
  simp only [List.getElem_toArray, List.getElem_cons_succ, List.getElem_cons_zero, Act.put, List.setIfInBounds_toArray, List.set_cons_zero, List.set_cons_succ]
  refine wpAnyH_take (i := 34) (v := ?v34g1) rfl (by kernel_rfl) (by kernel_rfl) (by kernel_rfl) (fun _ _ _ h => h) (Or.inl ⟨by rfl, ?y34g1⟩) ⟨HH26.out.conv, Hg16x0.out.conv, Hg16x1.out, Hg16x2.out, Hg16x3.out⟩ ?r34g1
  case y34g1 => (intro w' hSw; clear hSw; go_simp; try with_reducible rfl)
  simp only [List.getElem_toArray, List.getElem_cons_succ, List.getElem_cons_zero, Act.put, List.setIfInBounds_toArray, List.set_cons_zero, List.set_cons_succ]
  refine wpAnyH_take (i := 35) (v := ?v35g1) rfl (by kernel_rfl) (by kernel_rfl) (by kernel_rfl) (fun _ _ _ h => h) (Or.inl ⟨by rfl, ?y35g1⟩) ⟨HH26.out.conv, Hg16x0.out.conv, Hg16x1.out, Hg16x2.out, Hg16x3.out⟩ ?r35g1
  case y35g1 => (intro w' hSw; clear hSw; go_simp; try with_reducible rfl)
  simp only [List.getElem_toArray, List.getElem_cons_succ, List.getElem_cons_zero, Act.put, List.setIfInBounds_toArray, List.set_cons_zero, List.set_cons_succ]
  refine wpAnyH_take (i := 36) (v := ?v36g1) rfl (by kernel_rfl) (by kernel_rfl) (by kernel_rfl) (fun _ _ _ h => h) (Or.inl ⟨by rfl, ?y36g1⟩) ⟨HH26.out.conv, Hg16x0.out.conv, Hg16x1.out, Hg16x2.out, Hg16x3.out⟩ ?r36g1
  case y36g1 => (intro w' hSw; clear hSw; go_simp; try with_reducible rfl)
  simp only [List.getElem_toArray, List.getElem_cons_succ, List.getElem_cons_zero, Act.put, List.setIfInBounds_toArray, List.set_cons_zero, List.set_cons_succ]
  refine wpAnyH_take (i := 37) (v := ?v37g1) rfl (by kernel_rfl) (by kernel_rfl) (by kernel_rfl) (fun _ _ _ h => h) (Or.inl ⟨by rfl, ?y37g1⟩) ⟨HH26.out.conv, Hg16x0.out.conv, Hg16x1.out, Hg16x2.out, Hg16x3.out⟩ ?r37g1
  case y37g1 => (intro w' hSw; clear hSw; go_simp; try with_reducible rfl)
  simp only [List.getElem_toArray, List.getElem_cons_succ, List.getElem_cons_zero, Act.put, List.setIfInBounds_toArray, List.set_cons_zero, List.set_cons_succ]
  refine wpAnyH_take (i := 38) (v := ?v38g1) rfl (by kernel_rfl) (by kernel_rfl) (by kernel_rfl) (fun _ _ _ h => h) (Or.inl ⟨by rfl, ?y38g1⟩) ⟨HH26.out.conv, Hg16x0.out.conv, Hg16x1.out, Hg16x2.out, Hg16x3.out⟩ ?r38g1
  case y38g1 => (intro w' hSw; clear hSw; go_simp; try with_reducible rfl)
  simp only [List.getElem_toArray, List.getElem_cons_succ, List.getElem_cons_zero, Act.put, List.setIfInBounds_toArray, List.set_cons_zero, List.set_cons_succ]
  refine wpAnyH_take (i := 39) (v := ?v39g1) rfl (by kernel_rfl) (by kernel_rfl) (by kernel_rfl) (fun _ _ _ h => h) (Or.inl ⟨by rfl, ?y39g1⟩) ⟨HH26.out.conv, Hg16x0.out.conv, Hg16x1.out, Hg16x2.out, Hg16x3.out⟩ ?r39g1
  case y39g1 => (intro w' hSw; clear hSw; go_simp; try with_reducible rfl)
  simp only [List.getElem_toArray, List.getElem_cons_succ, List.getElem_cons_zero, Act.put, List.setIfInBounds_toArray, List.set_cons_zero, List.set_cons_succ]
  refine wpAnyH_take (i := 40) (v := ?v40g1) rfl (by kernel_rfl) (by kernel_rfl) (by kernel_rfl) (fun _ _ _ h => h) (Or.inl ⟨by rfl, ?y40g1⟩) ⟨HH26.out.conv, Hg16x0.out.conv, Hg16x1.out, Hg16x2.out, Hg16x3.out⟩ ?r40g1
  case y40g1 => (intro w' hSw; clear hSw; go_simp; try with_reducible rfl)
  simp only [List.getElem_toArray, List.getElem_cons_succ, List.getElem_cons_zero, Act.put, List.setIfInBounds_toArray, List.set_cons_zero, List.set_cons_succ]
  refine wpAnyH_done (by kernel_rfl) ?_ _
  go_wp2
  go_ret
  exact ⟨rfl, HBg16.out⟩
theorem kpkeCodes_walk (a0 a1 : Int) (c2 : Array Value) (x2 : Nat → Int) (a3 : Option Addr) (len3 cap3 : Nat) (z3 : List Int) (w : World) (_hT : Kec.Tables w) (_w0 : (Lit.int .i64 a0).wf = true) (w1 : (Lit.int .i64 a1).wf = true) (hp : IsP c2 x2) (hf : Fits x2) (w3 : Kec.IsRow .u8 w a3 len3 cap3 z3) :
    Calls Tryd.prog 4 #[.int .i64 a0, .int .i64 a1, .agg c2, .slice a3 len3 cap3] w fun e w' => e = .returned (.bool true) ∧ Below w.heap.size w w' := by
  obtain ⟨hR, hn, hm⟩ := Kec.rd_of_row w3
  simp [Lit.wf, IntKind.min, IntKind.max, IntKind.bits, IntKind.signed] at w1
  exact codes_walk a0 a1 a3 _ len3 cap3 c2 x2 w (by omega) (by omega) hR hn hm hp hf
end Go.Proofs.YtdkhiooiakdecaaDoorR.Kp
