/- Walks: WireBack. -/
import Derived.Test.YthjoafldndgahaaDoorWrApart
namespace Go.Proofs.YthjoafldndgahaaDoor.Wr
set_option linter.all false
open Go.RowKit

theorem getN_at (pre x post : List Nat) (k m : Nat) (hk : k = 1 ∨ k = 2 ∨ k = 4) (hm : m < 256 ^ k) (hx : be k m = x) : getN (pre ++ (x ++ post)) (pre.length : Int) (k : Int) = (m, pre.length + k, 0) := by
  subst hx
  have h2 : okS (k : Int) = true := by rcases hk with rfl | rfl | rfl <;> rfl
  have hl : (pre ++ (be k m ++ post)).length = pre.length + (k + post.length) := by rw [List.length_append, List.length_append, be_len]
  have h1 : okP (pre ++ (be k m ++ post)).length (pre.length : Int) = true := by rw [hl]; simp [okP]; omega
  have hv : num (pre ++ (be k m ++ post)) pre.length k = m := by
    unfold num
    rw [drop_pre, List.take_append_of_le_length (by rw [be_len]; omega), List.take_of_length_le (by rw [be_len]; omega), val_be, Nat.mod_eq_of_lt hm]
  have h4 : 256 ^ k ≤ 256 ^ 4 := Nat.pow_le_pow_right (by omega) (by omega)
  unfold getN
  rw [if_neg (by rw [h1, h2]; simp), Int.toNat_natCast, Int.toNat_natCast, if_neg (by rw [hl]; omega), hv, if_neg (by omega)]
theorem own_gen' {w w' : World} {base n : Nat} {v : Value} {xs : List Value} (h : w.ownsRow base 5 1 v n xs) (hb : Below w.heap.size w w') : w'.ownsRow base 5 1 v n xs := own_gen h hb

set_option maxHeartbeats 8000000 in
set_option maxRecDepth 100000 in
theorem wireBack_walk (A : Option Addr) (a : List Nat) (na ca : Nat) (z : Int) (S : Option Addr) (s : List Nat) (ns cs : Nat) (L : Option Addr) (l : List (List Nat)) (nl cl : Nat) (B : Option Addr) (b : List Nat) (nb cb : Nat) (w : World) (hT : Tables w)
    (hA : Txt Any w A na ca a) (w1 : (Lit.int .u32 z).wf = true) (hS : Txt Any w S ns cs s) (hL : TxtL Any w L nl cl l) (hB : Txt Any w B nb cb b) :
    Calls Tryd.prog 5 #[.slice A na ca, .int .u32 z, .slice S ns cs, .slice L nl cl, .slice B nb cb] w fun e w' => e = .returned (.bool true) ∧ Below w.heap.size w w' := by
  obtain ⟨N, rfl, hN⟩ := u32_wf w1
  have hlt := hT.lt
  have hna63 : na ≤ 9223372036854775807 := by have h1 := hA.2.2.1; have h2 := hA.2.2.2.1; omega
  have hnb63 : nb ≤ 9223372036854775807 := by have h1 := hB.2.2.1; have h2 := hB.2.2.2.1; omega
  have HT := Lib.hid hT; have HA := Lib.hid hA; have HS := Lib.hid hS; have HL := Lib.hid hL; have HB := Lib.hid hB
  clear hT hA hS hL hB w1
  go_enter Tryd.func5, Tryd.ntmps5
  go_wp2_with fail
  refine (head_any w HT.out).mono ?_
  rintro e' v0 ⟨rfl, hB0⟩
  have HB0 := Lib.hid hB0; clear hB0
  obtain ⟨⟨x1, e1⟩, hr1⟩ : ∃ r, putT s = r := ⟨_, rfl⟩
  obtain ⟨⟨x2, e2⟩, hr2⟩ : ∃ r, putL l = r := ⟨_, rfl⟩
  have HR1 := Lib.hid hr1; have HR2 := Lib.hid hr2; clear hr1 hr2
  go_wp2_with fail
  refine (text_any S s ns cs v0 (HT.out.below HB0.out hlt) (HS.out.below HB0.out) _ HR1).mono ?_
  rintro e' v1 ⟨B1, p1, q1, rfl, hX1, hB1⟩
  have HX1 := Lib.hid hX1; have HB1 := Lib.hid (HB0.out.trans (hB1.mono HB0.out.size)); clear hX1 hB1
  go_wp2_with fail
  refine (list_any L l nl cl v1 (HT.out.below HB1.out hlt) (HL.out.below HB1.out) _ HR2).mono ?_
  rintro e' v2 ⟨B2, p2, q2, rfl, hX2, hB2⟩
  have HX1' := Lib.hid (HX1.out.below hB2).any
  have HX2 := Lib.hid hX2.any; have HB2 := Lib.hid (HB1.out.trans (hB2.mono HB1.out.size)); clear hX2 hB2
  clear HX1
  by_cases h1 : s.length ≤ 1048576
  · have hr1 := HR1.out
    rw [putT_yes h1] at hr1
    obtain ⟨hx1, rfl⟩ : x1 = txB s ∧ e1 = 0 := by injection hr1 with h1 h2; exact ⟨h1.symm, h2.symm⟩
    have HV1 := Lib.hid hx1; clear hr1 hx1
    have HH1 := Lib.hid h1; clear h1
    by_cases h2 : 1048576 < (cat l).length
    · have hr2 := HR2.out
      rw [putL_no h2] at hr2
      obtain ⟨rfl, rfl⟩ : x2 = [] ∧ e2 = 2 := by injection hr2 with h1 h2; exact ⟨h1.symm, h2.symm⟩
      clear hr2 h2
      go_wp2
      go_ret
      exact ⟨rfl, HB2.out⟩
    · have hr2 := HR2.out
      rw [putL_ok h2] at hr2
      obtain ⟨hx2, rfl⟩ : x2 = txB (cat l) ∧ e2 = 0 := by injection hr2 with h1 h2; exact ⟨h1.symm, h2.symm⟩
      have HV2 := Lib.hid hx2; clear hr2 hx2
      have HH2 := Lib.hid h2; clear h2
      go_wp2_with fail
      refine (great_any A na ca v2).mono ?_
      rintro e' v3 ⟨rfl, rfl⟩
      by_cases hga : 2097152 < na
      · rw [decide_eq_true hga]
        go_wp2
        go_ret
        exact ⟨rfl, HB2.out⟩
      rw [decide_eq_false hga]
      go_wp2_with fail
      refine (great_any B nb cb v2).mono ?_
      rintro e' v3 ⟨rfl, rfl⟩
      by_cases hgb : 2097152 < nb
      · rw [decide_eq_true hgb]
        go_wp2
        go_ret
        exact ⟨rfl, HB2.out⟩
      rw [decide_eq_false hgb]
      -- what is written
      have hp1 : p1 ≤ 1048580 := by have h1 := HX1'.out.len; rw [HV1.out, txB_len] at h1; have h2 := szB_pos s.length; have := HH1.out; omega
      have hp2 : p2 ≤ 1048580 := by have h1 := HX2.out.len; rw [HV2.out, txB_len] at h1; have h2 := szB_pos (cat l).length; have := HH2.out; omega
      have HNIL := Lib.hid (nil_own v2 (base := v2.heap.size) (Nat.le_refl _))
      have HC0 := Lib.hid ((Below.refl v2.heap.size v2).alloc (Nat.le_refl _) (.cells #[] 5))
      have HB3 := Lib.hid (HB2.out.alloc HB2.out.size (.cells #[] 5))
      have HA3 := Lib.hid (HA.out.below HB3.out)
      go_wp2_with (at_builtin; refine wpList_append_txt rfl (.tmp 47) (.tmp 48) rfl v2.heap.size 0 na ca _ [] a A Any rfl rfl HNIL.out HA3.out (by omega) HC0.out.size ?_)
      intro v' W3 hown hgrow hat
      obtain ⟨C3, c3, rfl⟩ := own_slice_of hown
      have HO3 := Lib.hid hown; have HC3 := Lib.hid (below_own HC0.out HNIL.out (Nat.le_refl _) hgrow); clear hown hgrow hat
      try rw [Nat.zero_add, List.nil_append] at HO3
      have HB4 := Lib.hid (HB2.out.trans (HC3.out.mono HB2.out.size))
      have HNB := Lib.hid (show numB (N : Int) 4 = be 4 N from (by unfold numB; rw [if_pos ⟨by rfl, by omega, by simpa using hN⟩]; rfl))
      go_wp2_with fail
      refine (number_any N 4 W3 (by omega)).mono ?_
      rintro e' W4 ⟨B5, n5, q5, rfl, hX5, hB5⟩
      rw [HNB.out] at hX5
      obtain rfl : 4 = n5 := by rw [← hX5.len, be_len]
      have HX5 := Lib.hid hX5.any
      have HO4 := Lib.hid (own_gen HO3.out hB5)
      have HC5 := Lib.hid (HC3.out.trans (hB5.mono HC3.out.size)); clear hX5 hB5
      have HB5 := Lib.hid (HB2.out.trans (HC5.out.mono HB2.out.size))
      go_wp2_with (at_builtin; refine wpList_append_txt rfl (.tmp 49) (.tmp 52) rfl v2.heap.size na 4 q5 _ a (be 4 N) B5 Any rfl rfl HO4.out HX5.out (by omega) HC5.out.size ?_)
      intro v' W6 hown hgrow hat
      obtain ⟨C6, c6, rfl⟩ := own_slice_of hown
      have HO6 := Lib.hid hown; have HC6 := Lib.hid (below_own HC5.out HO4.out (Nat.le_refl _) hgrow); clear hown hgrow hat
      have HB6 := Lib.hid (HB2.out.trans (HC6.out.mono HB2.out.size))
      have HX1b := Lib.hid (HX1'.out.below HC6.out)
      go_wp2_with (at_builtin; refine wpList_append_txt rfl (.tmp 54) (.tmp 55) rfl v2.heap.size (na + 4) p1 q1 _ (a ++ be 4 N) x1 B1 Any rfl rfl HO6.out HX1b.out (by omega) HC6.out.size ?_)
      intro v' W7 hown hgrow hat
      obtain ⟨C7, c7, rfl⟩ := own_slice_of hown
      have HO7 := Lib.hid hown; have HC7 := Lib.hid (below_own HC6.out HO6.out (Nat.le_refl _) hgrow); clear hown hgrow hat
      have HX2b := Lib.hid (HX2.out.below HC7.out)
      go_wp2_with (at_builtin; refine wpList_append_txt rfl (.tmp 56) (.tmp 57) rfl v2.heap.size (na + 4 + p1) p2 q2 _ (a ++ (be 4 N ++ x1)) x2 B2 Any rfl rfl HO7.out HX2b.out (by omega) HC7.out.size ?_)
      intro v' W8 hown hgrow hat
      obtain ⟨C8, c8, rfl⟩ := own_slice_of hown
      have HO8 := Lib.hid hown; have HC8 := Lib.hid (below_own HC7.out HO7.out (Nat.le_refl _) hgrow); clear hown hgrow hat
      have HB8 := Lib.hid (HB2.out.trans (HC8.out.mono HB2.out.size))
      have HBb := Lib.hid (HB.out.below HB8.out)
      go_wp2_with (at_builtin; refine wpList_append_txt rfl (.tmp 58) (.tmp 59) rfl v2.heap.size (na + 4 + p1 + p2) nb cb _ (a ++ (be 4 N ++ (x1 ++ x2))) b B Any rfl rfl HO8.out HBb.out (by omega) HC8.out.size ?_)
      intro v' W9 hown hgrow hat
      obtain ⟨C9, c9, rfl⟩ := own_slice_of hown
      have HO9 := Lib.hid hown; have HC9 := Lib.hid (below_own HC8.out HO8.out (Nat.le_refl _) hgrow); clear hown hgrow hat
      have HB9 := Lib.hid (HB2.out.trans (HC9.out.mono HB2.out.size))
      clear HO3 HO4 HO6 HO7 HO8 HC0 HC3 HC5 HC6 HC7 HC8 HNIL HB3 HA3 HB4 HB5 HB6 HB8 HBb HX1b HX2b HX5
      have hlt9 : ∀ j, gt (a ++ (be 4 N ++ (x1 ++ (x2 ++ b)))) j < 256 := gt_append_lt HA.out.lt (gt_append_lt (be_lt _ _) (gt_append_lt HX1'.out.lt (gt_append_lt HX2.out.lt HB.out.lt)))
      obtain ⟨C', c', e, hX9⟩ := Txt.of_own HO9.out hlt9
      injection e with e1 _ e3
      subst e1 e3
      have HX9 := Lib.hid hX9.any; clear hX9 hlt9
      obtain ⟨T, hTT⟩ : ∃ T, a ++ (be 4 N ++ (x1 ++ (x2 ++ b))) = T := ⟨_, rfl⟩
      obtain ⟨n9, hn9⟩ : ∃ n9, na + 4 + p1 + p2 + nb = n9 := ⟨_, rfl⟩
      rw [hTT, hn9] at HX9
      have hal : a.length = na := HA.out.len
      have hx1l : x1.length = p1 := HX1'.out.len
      have hx2l : x2.length = p2 := HX2.out.len
      have HG1 := Lib.hid (show getN T (na : Int) 4 = (N, na + 4, 0) by
        have := getN_at a (be 4 N) (x1 ++ (x2 ++ b)) 4 N (by omega) (by show N < 4294967296; omega) rfl
        rw [hal] at this
        rw [← hTT, ← this]; simp [List.append_assoc])
      have HG2 := Lib.hid (show getT T ((na + 4 : Nat) : Int) = (s, na + 4 + p1, 0) by
        have := getT_put (a ++ be 4 N) s (x2 ++ b) HH1.out
        rw [← HV1.out, List.length_append, be_len, hal, hx1l] at this
        rw [← hTT, ← this]; simp [List.append_assoc])
      have HG3 := Lib.hid (show getL T ((na + 4 + p1 : Nat) : Int) = (l, na + 4 + p1 + p2, 0) by
        have := getL_put (a ++ be 4 N ++ x1) b l (by have := HH2.out; omega)
        rw [← HV2.out, List.length_append, List.length_append, be_len, hal, hx1l, hx2l] at this
        rw [← hTT, ← this]; simp [List.append_assoc])
      clear hal hx1l hx2l hTT HO9 HC9
      obtain ⟨o1, ho1⟩ : ∃ o1, na + 4 = o1 := ⟨_, rfl⟩
      obtain ⟨o2, ho2⟩ : ∃ o2, o1 + p1 = o2 := ⟨_, rfl⟩
      obtain ⟨o3, ho3⟩ : ∃ o3, o2 + p2 = o3 := ⟨_, rfl⟩
      have ho : (n9 : Int) - (nb : Int) = (o3 : Int) ∧ n9 ≤ 8388608 ∧ o3 ≤ 8388608 := by omega
      obtain ⟨ho4, hn98, ho98⟩ := ho
      rw [ho1] at HG1 HG2 HG3
      rw [ho2] at HG2 HG3
      rw [ho3] at HG3
      try rw [hn9]
      clear ho1 ho2 ho3 hn9 hp1 hp2
      go_wp2_with fail
      refine getNumber_any _ T n9 _ (na : Int) 4 W9 _ HX9.out (by omega) (Lib.hid ?_)
      rintro e' W10 ⟨rfl, rfl⟩
      rw [HG1.out]
      go_wp2_with fail
      refine (getText_any _ T n9 _ o1 W9 (HT.out.below HB9.out hlt) HX9.out (by omega) _ HG2).mono ?_
      rintro e' W11 ⟨D1, m1, d1, rfl, hY1, hD1⟩
      have HB11 := Lib.hid (HB9.out.trans (hD1.mono HB9.out.size))
      have hcv1 := hY1.conv
      have hcv2 := (HS.out.below HB11.out).conv
      have HX11 := Lib.hid (HX9.out.below hD1)
      clear hY1 hD1
      go_wp2_with fail
      refine (getList_any _ T n9 _ o2 W11 (HT.out.below HB11.out hlt) HX11.out (by omega) _ HG3).mono ?_
      rintro e' W12 ⟨D2, m2, d2, rfl, hY2, hD2⟩
      have HB12 := Lib.hid (HB11.out.trans (hD2.mono HB11.out.size))
      have HY2 := Lib.hid hY2.any
      clear hY2 hD2 hcv1 hcv2
      go_wp2_with fail
      refine (same_any D2 L l l m2 d2 nl cl W12 HY2.out (HL.out.below HB12.out) true (Lib.hid (decide_eq_true rfl))).mono ?_
      rintro e' W13 ⟨rfl, hD3⟩
      have HB13 := Lib.hid (HB12.out.trans (hD3.mono HB12.out.size)); clear hD3
      go_wp2
      go_ret
      exact ⟨rfl, HB13.out⟩
  · have hr1 := HR1.out
    rw [putT_no h1] at hr1
    obtain ⟨rfl, rfl⟩ : x1 = [] ∧ e1 = 2 := by injection hr1 with h1 h2; exact ⟨h1.symm, h2.symm⟩
    clear hr1 h1
    go_wp2
    go_ret
    exact ⟨rfl, HB2.out⟩
end Go.Proofs.YthjoafldndgahaaDoor.Wr
