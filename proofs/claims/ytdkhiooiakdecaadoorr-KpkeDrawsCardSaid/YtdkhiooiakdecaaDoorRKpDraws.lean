/- Walks: KpkeDraws. Written by tools/mk_kpdraws.py. -/
import Derived.Test.YtdkhiooiakdecaaDoorRKpRefE
import Derived.Test.YtdkhiooiakdecaaDoorRKecRow
import Derived.Test.YtdkhiooiakdecaaDoorRKpWalkI
namespace Go.Proofs.YtdkhiooiakdecaaDoorR.Kp
set_option linter.all false
open Go.RowKit Iter Sm
attribute [local go_sem ↓] Go.wp_at_zero Go.wp_at_succ

theorem below_only {a w w' : World} {g : Nat} (h : Below a.heap.size a w) (hg : w.grownBy w' (some g)) (hl : a.heap.size ≤ g) : Below a.heap.size a w' := Kec.below_of_only h hg hl
set_option maxHeartbeats 1000000 in
theorem great_of (A : Option Addr) (n c : Nat) (w : World) (hm : n ≤ 9223372036854775807) :
    Calls Tryd.prog 8 #[.slice A n c] w fun e w' => e = .returned (.bool (decide (3000 < n))) ∧ w' = w := by
  by_cases h : 3000 < n
  · have hd : decide (3000 < n) = true := decide_eq_true h
    have h2 : decide ((3000 : Int) < (n : Int)) = true := decide_eq_true (by omega)
    rw [hd]
    go_enter Tryd.func8, Tryd.ntmps8
    go_wp2
    go_ret
    exact ⟨rfl, rfl⟩
  · have hd : decide (3000 < n) = false := decide_eq_false h
    have h2 : decide ((3000 : Int) < (n : Int)) = false := decide_eq_false (by omega)
    rw [hd]
    go_enter Tryd.func8, Tryd.ntmps8
    go_wp2
    go_ret
    exact ⟨rfl, rfl⟩
set_option maxHeartbeats 8000000 in
set_option maxRecDepth 100000 in
theorem draws_walk (A : Option Addr) (a : List Nat) (na ca : Nat) (B : Option Addr) (b : List Nat) (nb cb : Nat) (w : World) (hT : Kec.Tables w) (hRa : Kec.Rd w w.heap.size A a) (hna : a.length = na)
    (hca : A = none → ca = 0) (hma : na ≤ 9223372036854775807) (hRb : Kec.Rd w w.heap.size B b) (hnb : b.length = nb) (hcb : B = none → cb = 0) (hmb : nb ≤ 9223372036854775807) :
    Calls Tryd.prog 3 #[.slice A na ca, .slice B nb cb] w fun e w' => e = .returned (.bool true) ∧ Below w.heap.size w w' := by
  have h2 := hT.lt
  obtain ⟨Z, hz, hZ⟩ := zero_poly
  have HZ := Lib.hid hZ
  have HT := Lib.hid hT; have HRa := Lib.hid hRa; have HNa := Lib.hid (fun _ : Unit => hna); have HCa := Lib.hid hca
  have HRb := Lib.hid hRb; have HNb := Lib.hid (fun _ : Unit => hnb); have HCb := Lib.hid hcb
  obtain ⟨E, hE⟩ : ∃ E, uniE a = E := ⟨_, rfl⟩
  obtain ⟨F, hF⟩ : ∃ F, cenE b = F := ⟨_, rfl⟩
  have HE := Lib.hid hE; have HF := Lib.hid hF
  clear hT hRa hna hca hRb hnb hcb hZ hE hF
  go_enter Tryd.func3, Tryd.ntmps3
  go_wp2_with fail
  refine (head_any _).mono ?_
  rintro e' w1 ⟨rfl, hB1⟩
  have HB1 := Lib.hid hB1; clear hB1
  go_wp2_with fail
  refine (great_of A na ca w1 hma).mono ?_
  rintro e' w1' ⟨rfl, hw⟩
  obtain rfl : w1 = w1' := hw.symm
  by_cases hga : 3000 < na
  · rw [decide_eq_true hga]
    go_wp2
    go_ret
    exact ⟨rfl, HB1.out⟩
  rw [decide_eq_false hga]
  go_wp2_with fail
  refine (great_of B nb cb w1 hmb).mono ?_
  rintro e' w1' ⟨rfl, hw⟩
  obtain rfl : w1 = w1' := hw.symm
  by_cases hgb : 3000 < nb
  · rw [decide_eq_true hgb]
    go_wp2
    go_ret
    exact ⟨rfl, HB1.out⟩
  rw [decide_eq_false hgb]
  have hs1 := HB1.out.size
  have HNIL := Lib.hid (Kec.nil_own w1 (base := w1.heap.size) (Nat.le_refl _))
  have HB1a := Lib.hid (HB1.out.alloc hs1 (.cells #[] 5))
  have HRa1 := Lib.hid (HRa.out.below HB1a.out)
  go_wp2_with (at_builtin; refine Kec.wpList_append_rd rfl (.tmp 26) (.tmp 27) rfl w1.heap.size w1.heap.size 0 0 na ca w.heap.size [] a A rfl rfl HNIL.out HRa1.out (HNa.out ()) HCa.out (by omega) (by simp) ?_)
  intro gk capk w4 hown hgrow hat
  try simp only [Nat.zero_add, List.nil_append] at hown
  have HO4 := Lib.hid hown; have HB4 := Lib.hid (below_only HB1a.out hgrow hs1)
  clear hown hgrow hat HNIL HB1a HRa1
  have hs4 := HB4.out.size
  have hgk1 := (HO4.out.lt gk rfl).1
  have hgk2 := (HO4.out.lt gk rfl).2
  have hcp := Kec.own_cap HO4.out
  unfold maxLen at hcp
  have HRk := Lib.hid (Kec.rd_of_own HO4.out HRa.out.1 (Nat.le_refl _))
  have HNIL4 := Lib.hid (Kec.nil_own w4 (base := w4.heap.size) (Nat.le_refl _))
  have HB4a := Lib.hid (HB4.out.alloc hs4 (.cells #[] 5))
  have HE4a := Lib.hid ((Below.refl w4.heap.size w4).alloc (Nat.le_refl _) (.cells #[] 5))
  have HRb4 := Lib.hid (HRb.out.below HB4a.out)
  go_wp2_with (at_builtin; refine Kec.wpList_append_rd rfl (.tmp 29) (.tmp 30) rfl w4.heap.size w4.heap.size 0 0 nb cb w.heap.size [] b B rfl rfl HNIL4.out HRb4.out (HNb.out ()) HCb.out (by omega) (by simp) ?_)
  intro gt capt w5 hown hgrow hat
  try simp only [Nat.zero_add, List.nil_append] at hown
  have HO5 := Lib.hid hown; have HB5 := Lib.hid (below_only HB4a.out hgrow hs4); have HE5 := Lib.hid (below_only HE4a.out hgrow (Nat.le_refl _))
  clear hown hgrow hat HNIL4 HB4a HE4a HRb4
  have hs5 := HB5.out.size
  have hs45 := HE5.out.size
  have hgt1 := (HO5.out.lt gt rfl).1
  have hgt2 := (HO5.out.lt gt rfl).2
  have hcp2 := Kec.own_cap HO5.out
  unfold maxLen at hcp2
  have HRt := Lib.hid (Kec.rd_of_own HO5.out HRb.out.1 (Nat.le_refl _))
  have HRk5 := Lib.hid ((HRk.out.below HE5.out).more hs45)
  go_wp2_with fail
  refine (uniform_all (some ⟨gk, 0, none⟩) a na capk w5 HRk5.out (HNa.out ()) (by omega) (HT.out.below HB5.out h2)).mono ?_
  rintro e' w6 ⟨xs, rfl, hX, hB⟩
  rw [HE.out]
  have HX := Lib.hid hX
  have HB6 := Lib.hid (HB5.out.trans (hB.mono hs5)); have HE6 := Lib.hid (HE5.out.trans (hB.mono hs45)); have HF6 := Lib.hid hB
  clear hX hB HRk HRk5
  go_wp2_with (refine wpList_store_row rfl 26 (.tmp 8) (.tmp 35) rfl w6.heap.size xs rfl rfl 26 Z (heap_alloc_last w6 _) (poly_sized HX.out) (by rw [HZ.out.1, HX.out.1]) HX.out.cells ?_)
  rw [World.setRow_alloc_new]
  have hbn := (Below.refl w6.heap.size w6).alloc (Nat.le_refl _) (.cells xs 26)
  have HNw7 := Lib.hid (heap_alloc_last w6 (.cells xs 26))
  have HB7 := Lib.hid (HB6.out.trans (hbn.mono HB6.out.size)); have HE7 := Lib.hid (HE6.out.trans (hbn.mono HE6.out.size)); have HF7 := Lib.hid (HF6.out.trans (hbn.mono HF6.out.size))
  obtain ⟨D, hD⟩ : ∃ D, w6.heap.size = D := ⟨_, rfl⟩
  obtain ⟨w7, hw7⟩ : ∃ w7, w6.alloc (.cells xs 26) = w7 := ⟨_, rfl⟩
  have hDt : gt < D := by have := HF6.out.size; omega
  have hD7 : D < w7.heap.size := by rw [← hw7, ← hD]; simp
  rw [hw7] at HNw7 HB7 HE7 HF7
  rw [hD] at HNw7
  rw [hw7, hD]
  clear hbn hw7 hD HB6 HE6 HF6
  have HRt7 := Lib.hid ((HRt.out.below HF7.out).more HF7.out.size)
  go_wp2_with fail
  refine (centred_all (some ⟨gt, 0, none⟩) b nb capt w7 HRt7.out (HNb.out ()) (by omega)).mono ?_
  rintro e' w8 ⟨ys, rfl, hY, hB⟩
  rw [HF.out]
  have HY := Lib.hid hY
  have HB8 := Lib.hid (HB7.out.trans (hB.mono HB7.out.size)); have HE8 := Lib.hid (HE7.out.trans (hB.mono HE7.out.size)); have HF8 := Lib.hid (HF7.out.trans (hB.mono HF7.out.size))
  have HX8 := Lib.hid ((hB.block D hD7).trans HNw7.out)
  have h78 := hB.size
  clear hY hB HRt HRt7 HNw7 HB7 HE7 HF7
  go_wp2_with (refine wpList_store_row rfl 26 (.tmp 10) (.tmp 40) rfl w8.heap.size ys rfl rfl 26 Z (heap_alloc_last w8 _) (poly_sized HY.out) (by rw [HZ.out.1, HY.out.1]) HY.out.cells ?_)
  rw [World.setRow_alloc_new]
  have hbn := (Below.refl w8.heap.size w8).alloc (Nat.le_refl _) (.cells ys 26)
  have HNw9 := Lib.hid (heap_alloc_last w8 (.cells ys 26))
  have HX9 := Lib.hid ((hbn.block D (Array.getElem?_eq_some_iff.1 HX8.out).1).trans HX8.out)
  have HB9 := Lib.hid (HB8.out.trans (hbn.mono HB8.out.size)); have HE9 := Lib.hid (HE8.out.trans (hbn.mono HE8.out.size)); have HF9 := Lib.hid (HF8.out.trans (hbn.mono HF8.out.size))
  obtain ⟨D2, hD⟩ : ∃ D2, w8.heap.size = D2 := ⟨_, rfl⟩
  obtain ⟨w9, hw9⟩ : ∃ w9, w8.alloc (.cells ys 26) = w9 := ⟨_, rfl⟩
  have hD2 : D < D2 := by omega
  rw [hw9] at HNw9 HB9 HE9 HF9 HX9
  rw [hD] at HNw9
  rw [hw9, hD]
  clear hbn hw9 hD HB8 HE8 HF8 HX8 h78
  have HBK := Lib.hid (Kec.bytes_of_own (Kec.own_below HO4.out HE9.out (Nat.le_refl _)))
  have HBT := Lib.hid (Kec.bytes_of_own (Kec.own_below HO5.out HF9.out (Nat.le_refl _)))
  clear HO4 HO5 HE5 HE9 HF9 HB4 HB5
  have hkt : gk < gt := by omega
  have hkw : w.heap.size ≤ gk := by omega
  go_wp2_with fail
  go_loopw [12] (fun i W => ∃ k : Nat, k ≤ na ∧ i = .int .i64 k ∧ Hid (Kec.Bytes W gk na) ∧ Hid (Kec.Bytes W gt nb) ∧ Hid (W.heap[D]? = some (.cells xs 26 (0, 0))) ∧ Hid (W.heap[D2]? = some (.cells ys 26 (0, 0))) ∧ Hid (Below w.heap.size w W)) (fun i _ => na - (intOf i).toNat)
  case atStart => exact ⟨0, by omega, rfl, HBK, HBT, HX9, HNw9, HB9⟩
  case round =>
    obtain ⟨k, hk, rfl, HK1, HT1, HX1, HY1, HW1⟩ := hrel
    by_cases hkn : k < na
    · obtain ⟨z, c0⟩ := HK1.out.cell k hkn
      have f0 := HK1.out.frozen k
      have yk : (k : Int) < (na : Int) := by omega
      go_wp2
      go_roundw
      case rel =>
        exact ⟨k + 1, by omega, by go_num, Lib.hid (HK1.out.set k _), Lib.hid (HT1.out.grown (Kec.only_set (World.grownBy.refl wr (some gk)) (p := ⟨gk, k, none⟩) (.inl rfl) _) (by omega)),
          Lib.hid ((Below.heap_setCell _ ⟨gk, k, none⟩ _ _ (by show D ≠ gk; omega)).trans HX1.out), Lib.hid ((Below.heap_setCell _ ⟨gk, k, none⟩ _ _ (by show D2 ≠ gk; omega)).trans HY1.out), Lib.hid (HW1.out.setCell (p := ⟨gk, k, none⟩) hkw _)⟩
      case measure => simp [intOf]; omega
    · have yk : ¬ (k : Int) < (na : Int) := by omega
      obtain rfl : k = na := by omega
      go_wp2_with fail
      go_loopw [13] (fun i W => ∃ j : Nat, j ≤ nb ∧ i = .int .i64 j ∧ Hid (Kec.Bytes W gt nb) ∧ Hid (W.heap[D]? = some (.cells xs 26 (0, 0))) ∧ Hid (W.heap[D2]? = some (.cells ys 26 (0, 0))) ∧ Hid (Below w.heap.size w W)) (fun i _ => nb - (intOf i).toNat)
      case atStart => exact ⟨0, by omega, rfl, HT1, HX1, HY1, HW1⟩
      case round =>
        obtain ⟨j, hj, rfl, HT2, HX2, HY2, HW2⟩ := hrel
        by_cases hjn : j < nb
        · obtain ⟨z, c0⟩ := HT2.out.cell j hjn
          have f0 := HT2.out.frozen j
          have yj : (j : Int) < (nb : Int) := by omega
          go_wp2
          go_roundw
          case rel =>
            exact ⟨j + 1, by omega, by go_num, Lib.hid (HT2.out.set j _), Lib.hid ((Below.heap_setCell _ ⟨gt, j, none⟩ _ _ (by show D ≠ gt; omega)).trans HX2.out), Lib.hid ((Below.heap_setCell _ ⟨gt, j, none⟩ _ _ (by show D2 ≠ gt; omega)).trans HY2.out), Lib.hid (HW2.out.setCell (p := ⟨gt, j, none⟩) (by show w.heap.size ≤ gt; omega) _)⟩
          case measure => simp [intOf]; omega
        · have yj : ¬ (j : Int) < (nb : Int) := by omega
          obtain rfl : j = nb := by omega
          have hsr := HW2.out.size
          go_wp2_with fail
          refine (runiform_all A a k ca wr ((HRa.out.below HW2.out).more hsr) (HNa.out ()) hma (by omega)).mono ?_
          rintro e' w10 ⟨us, rfl, hU, hB⟩
          rw [HE.out]
          obtain rfl : us = xs := hU.one HX.out fun i hi => rfl
          have HX10 := Lib.hid ((hB.block D (Array.getElem?_eq_some_iff.1 HX2.out).1).trans HX2.out); have HY10 := Lib.hid ((hB.block D2 (Array.getElem?_eq_some_iff.1 HY2.out).1).trans HY2.out)
          have HW10 := Lib.hid (HW2.out.trans (hB.mono hsr))
          clear hU hB HT2 HX2 HY2 HW2
          go_wp2_with (refine wpList_store_row rfl 26 (.tmp 14) (.tmp 69) rfl w10.heap.size us rfl rfl 26 Z (heap_alloc_last w10 _) (poly_sized HX.out) (by rw [HZ.out.1, HX.out.1]) HX.out.cells ?_)
          rw [World.setRow_alloc_new]
          have hbn := (Below.refl w10.heap.size w10).alloc (Nat.le_refl _) (.cells us 26)
          have HNw11 := Lib.hid (heap_alloc_last w10 (.cells us 26))
          have HX11 := Lib.hid ((hbn.block D (Array.getElem?_eq_some_iff.1 HX10.out).1).trans HX10.out)
          have HY11 := Lib.hid ((hbn.block D2 (Array.getElem?_eq_some_iff.1 HY10.out).1).trans HY10.out)
          have HW11 := Lib.hid (HW10.out.trans (hbn.mono HW10.out.size))
          obtain ⟨D3, hD⟩ : ∃ D3, w10.heap.size = D3 := ⟨_, rfl⟩
          obtain ⟨w11, hw11⟩ : ∃ w11, w10.alloc (.cells us 26) = w11 := ⟨_, rfl⟩
          rw [hw11] at HNw11 HW11 HX11 HY11
          rw [hD] at HNw11
          rw [hw11, hD]
          clear hbn hw11 hD HW10 HX10 HY10
          go_wp2_with fail
          refine (rcentred_all B b j cb w11 ((HRb.out.below HW11.out).more HW11.out.size) (HNb.out ()) hmb).mono ?_
          rintro e' w12 ⟨vs, rfl, hV, hB⟩
          rw [HF.out]
          obtain rfl : vs = ys := hV.one HY.out fun i hi => rfl
          have HX12 := Lib.hid ((hB.block D (Array.getElem?_eq_some_iff.1 HX11.out).1).trans HX11.out); have HY12 := Lib.hid ((hB.block D2 (Array.getElem?_eq_some_iff.1 HY11.out).1).trans HY11.out); have HU12 := Lib.hid ((hB.block D3 (Array.getElem?_eq_some_iff.1 HNw11.out).1).trans HNw11.out)
          have HW12 := Lib.hid (HW11.out.trans (hB.mono HW11.out.size))
          clear hV hB HNw11 HX11 HY11 HW11
          go_wp2_with (refine wpList_store_row rfl 26 (.tmp 16) (.tmp 74) rfl w12.heap.size vs rfl rfl 26 Z (heap_alloc_last w12 _) (poly_sized HY.out) (by rw [HZ.out.1, HY.out.1]) HY.out.cells ?_)
          rw [World.setRow_alloc_new]
          have hbn := (Below.refl w12.heap.size w12).alloc (Nat.le_refl _) (.cells vs 26)
          have HNw13 := Lib.hid (heap_alloc_last w12 (.cells vs 26))
          have HX13 := Lib.hid ((hbn.block D (Array.getElem?_eq_some_iff.1 HX12.out).1).trans HX12.out)
          have HY13 := Lib.hid ((hbn.block D2 (Array.getElem?_eq_some_iff.1 HY12.out).1).trans HY12.out)
          have HU13 := Lib.hid ((hbn.block D3 (Array.getElem?_eq_some_iff.1 HU12.out).1).trans HU12.out)
          have HW13 := Lib.hid (HW12.out.trans (hbn.mono HW12.out.size))
          obtain ⟨D4, hD⟩ : ∃ D4, w12.heap.size = D4 := ⟨_, rfl⟩
          obtain ⟨w13, hw13⟩ : ∃ w13, w12.alloc (.cells vs 26) = w13 := ⟨_, rfl⟩
          rw [hw13] at HNw13 HW13 HX13 HY13 HU13
          rw [hD] at HNw13
          rw [hw13, hD]
          clear hbn hw13 hD HW12 HX12 HY12 HU12
          have hre := fun w => run_eq HX.out w
          have hgd := fun x y w => guard_poly .eql x y us us w
          have hre2 := fun w => run_eq HY.out w
          have hgd2 := fun x y w => guard_poly .eql x y vs vs w
          have HIX := Lib.hid (poly_sized HX.out); have HIY := Lib.hid (poly_sized HY.out)
          go_wp2_with fail
          refine wp_load_row 26 (.tmp 8) rfl D rfl 26 us (0, 0) _ HX13.out Tryd.underlying26 rfl HIX.out ?_
          rename_i K hK
          refine hK _ _ ?_
          clear hK K
          go_wp2_with fail
          refine wp_load_row 26 (.tmp 14) rfl D3 rfl 26 us (0, 0) _ HU13.out Tryd.underlying26 rfl HIX.out ?_
          rename_i K hK
          refine hK _ _ ?_
          clear hK K
          go_wp2_with fail
          refine wp_load_row 26 (.tmp 10) rfl D2 rfl 26 vs (0, 0) _ HY13.out Tryd.underlying26 rfl HIY.out ?_
          rename_i K hK
          refine hK _ _ ?_
          clear hK K
          go_wp2_with fail
          refine wp_load_row 26 (.tmp 16) rfl D4 rfl 26 vs (0, 0) _ HNw13.out Tryd.underlying26 rfl HIY.out ?_
          rename_i K hK
          refine hK _ _ ?_
          clear hK K
          go_wp2_with fail
          go_ret
          exact ⟨rfl, HW13.out⟩
theorem kpkeDraws_walk (a0 : Option Addr) (len0 cap0 : Nat) (z0 : List Int) (a1 : Option Addr) (len1 cap1 : Nat) (z1 : List Int) (w : World) (hT : Kec.Tables w) (w0 : Kec.IsRow .u8 w a0 len0 cap0 z0) (w1 : Kec.IsRow .u8 w a1 len1 cap1 z1) :
    Calls Tryd.prog 3 #[.slice a0 len0 cap0, .slice a1 len1 cap1] w fun e w' => e = .returned (.bool true) ∧ Below w.heap.size w w' := by
  obtain ⟨hR0, hn0, hm0⟩ := Kec.rd_of_row w0
  obtain ⟨hR1, hn1, hm1⟩ := Kec.rd_of_row w1
  exact draws_walk a0 _ len0 cap0 a1 _ len1 cap1 w hT hR0 hn0 (fun e => by
      rcases w0 with ⟨_, _, h3, _⟩ | ⟨y, h1, _⟩
      · exact h3
      · rw [e] at h1; cases h1) hm0 hR1 hn1 (fun e => by
      rcases w1 with ⟨_, _, h3, _⟩ | ⟨y, h1, _⟩
      · exact h3
      · rw [e] at h1; cases h1) hm1
end Go.Proofs.YtdkhiooiakdecaaDoorR.Kp
