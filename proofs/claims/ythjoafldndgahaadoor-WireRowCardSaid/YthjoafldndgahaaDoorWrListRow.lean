/- Walks: WireRow. -/
import Derived.Test.YthjoafldndgahaaDoorWrApart
namespace Go.Proofs.YthjoafldndgahaaDoor.Wr
set_option linter.all false
open Go.RowKit

theorem one_row {w : World} {S : Option Addr} {ns cs : Nat} {s : List Nat} (hS : Txt Any w S ns cs s) : TxtL Any (w.alloc (.cells #[.slice S ns cs] 22)) (some ⟨w.heap.size, 0, none⟩) 1 1 [s] := by
  have hB := (Below.refl w.heap.size w).alloc (Nat.le_refl _) (.cells #[.slice S ns cs] 22)
  refine ⟨rfl, by omega, by omega, fun e => (by cases e), fun ad e => ⟨True.intro, fun _ => ?_⟩, fun ad e j hj => ?_⟩
  · injection e with e; subst e; simp
  · injection e with e; subst e
    obtain rfl : j = 0 := by omega
    refine ⟨S, ns, cs, ?_, hS.below hB⟩
    show (w.alloc (.cells #[.slice S ns cs] 22)).cell? ⟨w.heap.size, 0, none⟩ = _
    rw [cell_of_row _ _ 0 _ 22 (0, 0) (heap_alloc_last w _)]; rfl
theorem putL_none : putL [] = ([0], 0) := by decide +kernel
theorem putL_one (s : List Nat) : putL [s] = putT (txB s) := by unfold putL; rw [cat_one]; rfl

set_option maxHeartbeats 8000000 in
set_option maxRecDepth 100000 in
theorem wireRow_walk (L : Option Addr) (l : List (List Nat)) (nl cl : Nat) (S : Option Addr) (s : List Nat) (ns cs : Nat) (w : World) (hT : Tables w) (hL : TxtL Any w L nl cl l) (hS : Txt Any w S ns cs s) :
    Calls Tryd.prog 9 #[.slice L nl cl, .slice S ns cs] w fun e w' => e = .returned (.bool true) ∧ Below w.heap.size w w' := by
  have hlt := hT.lt
  have hln : l.length = nl := hL.1
  have hn63 : nl ≤ 9223372036854775807 := by have h1 := hL.2.1; have h2 := hL.2.2.1; omega
  have HLN := Lib.hid hln
  have HT := Lib.hid hT; have HL := Lib.hid hL; have HS := Lib.hid hS
  clear hT hL hS hln
  go_enter Tryd.func9, Tryd.ntmps9
  go_wp2_with fail
  refine (head_any w HT.out).mono ?_
  rintro e' v0 ⟨rfl, hB0⟩
  have HB0 := Lib.hid hB0; clear hB0
  by_cases hbig : 500 < nl
  · have yb : (500 : Int) < (nl : Int) := by omega
    go_wp2
    go_ret
    exact ⟨rfl, HB0.out⟩
  have yb : ¬ (500 : Int) < (nl : Int) := by omega
  have hs0 := HB0.out.size
  go_wp2
  try rw [show decide ((500 : Int) < (nl : Int)) = false from decide_eq_false (by omega)]
  go_loopw [6, 7] (fun v i W => ∃ (k m cC : Nat) (C : Option Addr) (acc : List Nat), i = .int .i64 k ∧ v = .slice C m cC ∧ k ≤ nl ∧ m ≤ 1048576 ∧ Hid (W.ownsRow v0.heap.size 5 1 (.slice C m cC) m (bcells acc)) ∧ Hid (cat (l.take k) = acc) ∧ Hid (Below v0.heap.size v0 W)) (fun _ i _ => nl - (intOf i).toNat)
  case atStart => exact ⟨0, 0, 0, none, [], rfl, rfl, by omega, by omega, Lib.hid ⟨rfl, .inl ⟨rfl, rfl⟩⟩, Lib.hid (by simp [cat]), Lib.hid (Below.refl _ _)⟩
  case round =>
    obtain ⟨k, m, cC, C, acc, rfl, rfl, hk, hm, HO, HX, HBv⟩ := hrel
    have HB := Lib.hid (HB0.out.trans (HBv.out.mono hs0))
    by_cases hkn : k < nl
    · have yk : (k : Int) < (nl : Int) := by omega
      obtain ⟨ad, rfl⟩ := HL.out.some (by omega)
      obtain ⟨Aj, nj, cj, hc, hX⟩ := txtL_at (HL.out.below HB.out) k hkn
      have HXj := Lib.hid hX
      have HSUC := Lib.hid (cat_take_succ l k (by rw [HLN.out]; exact hkn))
      obtain ⟨t, ht⟩ : ∃ t, l.getD k [] = t := ⟨_, rfl⟩
      rw [ht] at HXj HSUC
      rw [HX.out] at HSUC
      clear hX ht
      by_cases hb1 : t.length ≤ 1048576
      · have HP := Lib.hid (putT_yes hb1)
        have hp := szB_pos t.length
        go_wp2_with fail
        refine (text_any Aj t nj cj wr (HT.out.below HB.out hlt) HXj.out _ HP).mono ?_
        rintro e' w1 ⟨A1, n1, c1, rfl, hX1, hB1⟩
        have hn1' : n1 ≤ 1048580 := by have := hX1.len; rw [txB_len] at this; omega
        have HX1 := Lib.hid hX1; have HB1 := Lib.hid hB1; clear hX1 hB1 hc
        have HBv2 := Lib.hid (HBv.out.trans (HB1.out.mono HBv.out.size))
        have HO2 := Lib.hid (own_gen HO.out HB1.out)
        clear hb1 hp
        go_wp2_with (at_builtin; refine wpList_append_txt rfl (.tmp 44) (.tmp 45) rfl v0.heap.size m n1 c1 (.slice C m cC) acc (txB t) A1 (New wr.heap.size w1) rfl rfl HO2.out HX1.out (by omega) HBv2.out.size ?_)
        intro v' W2 hown hgrow hat
        obtain ⟨C', c', rfl⟩ := own_slice_of hown
        have HO3 := Lib.hid hown; have HBv3 := Lib.hid (below_own HBv2.out HO2.out (Nat.le_refl _) hgrow); clear hown hgrow hat
        have HB3 := Lib.hid (HB0.out.trans (HBv3.out.mono hs0))
        obtain ⟨m', hm', hmm⟩ : ∃ m', m + n1 = m' ∧ (m : Int) + (n1 : Int) = (m' : Int) := ⟨_, rfl, by omega⟩
        rw [hm'] at HO3
        try rw [hm']
        by_cases hfit : 1048576 < m'
        · have y2 : (1048576 : Int) < (m' : Int) := by omega
          clear hm' hmm
          go_wp2
          go_ret
          exact ⟨rfl, HB3.out⟩
        · have y2 : ¬ (1048576 : Int) < (m' : Int) := by omega
          clear hm' hmm
          go_wp2
          go_roundw
          case rel => exact ⟨k + 1, m', c', C', acc ++ txB t, by go_num, rfl, by omega, by omega, HO3, HSUC, HBv3⟩
          case measure => simp [intOf]; omega
      · have HP := Lib.hid (putT_no hb1)
        go_wp2_with fail
        refine (text_any Aj t nj cj wr (HT.out.below HB.out hlt) HXj.out _ HP).mono ?_
        rintro e' w1 ⟨A1, n1, c1, rfl, hX1, hB1⟩
        have HB2 := Lib.hid (HB.out.trans (hB1.mono HB.out.size)); clear hX1 hB1 hc hb1
        go_wp2
        go_ret
        exact ⟨rfl, HB2.out⟩
    · have yk : ¬ (k : Int) < (nl : Int) := by omega
      have HAC := Lib.hid (show cat l = acc by rw [← HX.out, List.take_of_length_le (by rw [HLN.out]; omega)])
      have hacc : ∀ j, gt acc j < 256 := by rw [← HAC.out]; exact cat_lt HL.out.all
      have hal : acc.length = m := by have := HO.out.1; rw [bcells_len] at this; omega
      obtain ⟨C', c', e, hX⟩ := Txt.of_own HO.out hacc
      injection e with e1 _ e3
      subst e1 e3
      have HXc := Lib.hid hX.any
      have HP1 := Lib.hid (show putL l = (txB acc, 0) by rw [putL_ok (by rw [HAC.out]; omega), HAC.out])
      have HP2 := Lib.hid (show putT acc = (txB acc, 0) from putT_yes (by omega))
      clear hX hacc hal
      go_wp2_with fail
      refine (list_any L l nl cl wr (HT.out.below HB.out hlt) (HL.out.below HB.out) _ HP1).mono ?_
      rintro e' w1 ⟨A1, n1, c1, rfl, hX1, hB1⟩
      have HX1 := Lib.hid hX1; have HB1 := Lib.hid (HB.out.trans (hB1.mono HB.out.size))
      have HXc1 := Lib.hid (HXc.out.below hB1)
      clear hX1 hB1
      go_wp2_with fail
      refine (text_any C acc m cC w1 (HT.out.below HB1.out hlt) HXc1.out _ HP2).mono ?_
      rintro e' w2 ⟨A2, n2, c2, rfl, hX2, hB2⟩
      have HB2 := Lib.hid (HB1.out.trans (hB2.mono HB1.out.size))
      have hcv1 := (HX1.out.below hB2).conv
      have hcv2 := hX2.conv
      have HS2 := Lib.hid (HS.out.below HB2.out)
      have HLS := Lib.hid (one_row HS2.out)
      have HB3 := Lib.hid (HB2.out.alloc HB2.out.size (.cells #[.slice S ns cs] 22))
      clear hX2 hB2
      have hsl := HS.out.len
      by_cases hs1 : s.length ≤ 1048576
      · by_cases hs2 : (txB s).length ≤ 1048576
        · have HQ1 := Lib.hid (show putT s = (txB s, 0) from putT_yes hs1)
          have HQ3 := Lib.hid (show putT (txB s) = (txB (txB s), 0) from putT_yes hs2)
          have HQ4 := Lib.hid (show putL [s] = (txB (txB s), 0) by rw [putL_one]; exact putT_yes hs2)
          clear hs1 hs2
          clear hsl
          go_wp2_with fail
          refine (list_any _ [s] 1 1 _ (HT.out.below HB3.out hlt) HLS.out _ HQ4).mono ?_
          rintro e' w4 ⟨A4, n4, c4, rfl, hX4, hB4⟩
          have HX4 := Lib.hid hX4
          have HB4 := Lib.hid (HB3.out.trans (hB4.mono HB3.out.size)); clear hX4 hB4 hcv1 hcv2
          go_wp2_with fail
          refine (text_any S s ns cs w4 (HT.out.below HB4.out hlt) (HS.out.below HB4.out) _ HQ1).mono ?_
          rintro e' w5 ⟨A5, n5, c5, rfl, hX5, hB5⟩
          have HX4a := Lib.hid (HX4.out.below hB5); have HX5 := Lib.hid hX5.any
          have HB5 := Lib.hid (HB4.out.trans (hB5.mono HB4.out.size)); clear hX5 hB5 HX4
          go_wp2_with fail
          refine (text_any A5 _ n5 c5 w5 (HT.out.below HB5.out hlt) HX5.out _ HQ3).mono ?_
          rintro e' w6 ⟨A6, n6, c6, rfl, hX6, hB6⟩
          have HX4b := Lib.hid (HX4a.out.below hB6); have HX6 := Lib.hid hX6
          have HB6 := Lib.hid (HB5.out.trans (hB6.mono HB5.out.size)); clear hX6 hB6 HX4a
          go_wp2_with fail
          refine (list_any none [] 0 0 w6 (HT.out.below HB6.out hlt) (TxtL.nil _ _) _ (Lib.hid putL_none)).mono ?_
          rintro e' w7 ⟨A7, n7, c7, rfl, hX7, hB7⟩
          have HB7 := Lib.hid (HB6.out.trans (hB7.mono HB6.out.size))
          have hcv4 := (HX4b.out.below hB7).conv
          have hcv6 := (HX6.out.below hB7).conv
          have hcv7 := hX7.conv
          have e7 : txt [0] = ⟨#[0]⟩ := by decide +kernel
          rw [e7] at hcv7
          clear hX7 hB7 e7
          go_wp2
          go_ret
          exact ⟨rfl, HB7.out⟩
        · have HQ1 := Lib.hid (show putT s = (txB s, 0) from putT_yes hs1)
          have HQ3 := Lib.hid (show putT (txB s) = ([], 2) from putT_no hs2)
          have HQ4 := Lib.hid (show putL [s] = ([], 2) by rw [putL_one]; exact putT_no hs2)
          clear hs1 hs2
          clear hsl
          go_wp2_with fail
          refine (list_any _ [s] 1 1 _ (HT.out.below HB3.out hlt) HLS.out _ HQ4).mono ?_
          rintro e' w4 ⟨A4, n4, c4, rfl, hX4, hB4⟩
          have HX4 := Lib.hid hX4
          have HB4 := Lib.hid (HB3.out.trans (hB4.mono HB3.out.size)); clear hX4 hB4 hcv1 hcv2
          go_wp2_with fail
          refine (text_any S s ns cs w4 (HT.out.below HB4.out hlt) (HS.out.below HB4.out) _ HQ1).mono ?_
          rintro e' w5 ⟨A5, n5, c5, rfl, hX5, hB5⟩
          have HX4a := Lib.hid (HX4.out.below hB5); have HX5 := Lib.hid hX5.any
          have HB5 := Lib.hid (HB4.out.trans (hB5.mono HB4.out.size)); clear hX5 hB5 HX4
          go_wp2_with fail
          refine (text_any A5 _ n5 c5 w5 (HT.out.below HB5.out hlt) HX5.out _ HQ3).mono ?_
          rintro e' w6 ⟨A6, n6, c6, rfl, hX6, hB6⟩
          have HX4b := Lib.hid (HX4a.out.below hB6); have HX6 := Lib.hid hX6
          have HB6 := Lib.hid (HB5.out.trans (hB6.mono HB5.out.size)); clear hX6 hB6 HX4a
          go_wp2_with fail
          refine (list_any none [] 0 0 w6 (HT.out.below HB6.out hlt) (TxtL.nil _ _) _ (Lib.hid putL_none)).mono ?_
          rintro e' w7 ⟨A7, n7, c7, rfl, hX7, hB7⟩
          have HB7 := Lib.hid (HB6.out.trans (hB7.mono HB6.out.size))
          have hcv4 := (HX4b.out.below hB7).conv
          have hcv6 := (HX6.out.below hB7).conv
          have hcv7 := hX7.conv
          have e7 : txt [0] = ⟨#[0]⟩ := by decide +kernel
          rw [e7] at hcv7
          clear hX7 hB7 e7
          go_wp2
          go_ret
          exact ⟨rfl, HB7.out⟩
      · have HQ1 := Lib.hid (show putT s = ([], 2) from putT_no hs1)
        have HQ3 := Lib.hid (show putT [] = ([0], 0) by decide +kernel)
        obtain ⟨⟨x4, e4⟩, hq4⟩ : ∃ r, putL [s] = r := ⟨_, rfl⟩
        have HQ4 := Lib.hid hq4; clear hq4 hs1
        clear hsl
        go_wp2_with fail
        refine (list_any _ [s] 1 1 _ (HT.out.below HB3.out hlt) HLS.out _ HQ4).mono ?_
        rintro e' w4 ⟨A4, n4, c4, rfl, hX4, hB4⟩
        have HX4 := Lib.hid hX4
        have HB4 := Lib.hid (HB3.out.trans (hB4.mono HB3.out.size)); clear hX4 hB4 hcv1 hcv2
        go_wp2_with fail
        refine (text_any S s ns cs w4 (HT.out.below HB4.out hlt) (HS.out.below HB4.out) _ HQ1).mono ?_
        rintro e' w5 ⟨A5, n5, c5, rfl, hX5, hB5⟩
        have HX4a := Lib.hid (HX4.out.below hB5); have HX5 := Lib.hid hX5.any
        have HB5 := Lib.hid (HB4.out.trans (hB5.mono HB4.out.size)); clear hX5 hB5 HX4
        go_wp2_with fail
        refine (text_any A5 _ n5 c5 w5 (HT.out.below HB5.out hlt) HX5.out _ HQ3).mono ?_
        rintro e' w6 ⟨A6, n6, c6, rfl, hX6, hB6⟩
        have HX4b := Lib.hid (HX4a.out.below hB6); have HX6 := Lib.hid hX6
        have HB6 := Lib.hid (HB5.out.trans (hB6.mono HB5.out.size)); clear hX6 hB6 HX4a
        go_wp2_with fail
        refine (list_any none [] 0 0 w6 (HT.out.below HB6.out hlt) (TxtL.nil _ _) _ (Lib.hid putL_none)).mono ?_
        rintro e' w7 ⟨A7, n7, c7, rfl, hX7, hB7⟩
        have HB7 := Lib.hid (HB6.out.trans (hB7.mono HB6.out.size))
        have hcv4 := (HX4b.out.below hB7).conv
        have hcv6 := (HX6.out.below hB7).conv
        have hcv7 := hX7.conv
        have e7 : txt [0] = ⟨#[0]⟩ := by decide +kernel
        rw [e7] at hcv7
        clear hX7 hB7 e7
        go_wp2
        go_ret
        exact ⟨rfl, HB7.out⟩
end Go.Proofs.YthjoafldndgahaaDoor.Wr
