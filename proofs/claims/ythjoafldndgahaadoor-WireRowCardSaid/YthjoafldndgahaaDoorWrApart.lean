/- Walks: WireApart. -/
import Derived.Test.YthjoafldndgahaaDoorWrWalkK
namespace Go.Proofs.YthjoafldndgahaaDoor.Wr
set_option linter.all false
open Go.RowKit

theorem u32_wf {x : Int} (h : (Lit.int .u32 x).wf = true) : ∃ k : Nat, x = k ∧ k < 4294967296 := by
  simp [Lit.wf, IntKind.min, IntKind.max, IntKind.bits, IntKind.signed] at h
  exact ⟨x.toNat, by omega, by omega⟩
theorem isPre_no {s t : List Nat} (hs : s.length ≤ 1048576) (ht : t.length ≤ 1048576) (h : ¬ s = t) : isPre (txB t) (txB s) = false := by
  unfold isPre
  apply decide_eq_false
  intro e
  apply h
  refine txB_apart (x := []) (y := (txB s).drop (txB t).length) hs ht ?_
  rw [List.append_nil]
  conv => lhs; rw [← List.take_append_drop (txB t).length (txB s), e]
theorem cat_no {l m : List (List Nat)} (hl : (cat l).length ≤ 1048576) (hm : (cat m).length ≤ 1048576) (h : ¬ l = m) : ¬ cat l = cat m := by
  intro e
  apply h
  have h1 := textsOf_put l fun s hs => by have := mem_len hs; omega
  have h2 := textsOf_put m fun s hs => by have := mem_len hs; omega
  rw [e, h2] at h1
  exact (congrArg Prod.fst h1).symm
theorem putL_ok {l : List (List Nat)} (h : ¬ 1048576 < (cat l).length) : putL l = (txB (cat l), 0) := by unfold putL; rw [if_neg h]

set_option maxHeartbeats 8000000 in
set_option maxRecDepth 100000 in
theorem wireApart_walk (A : Option Addr) (s : List Nat) (n c : Nat) (A2 : Option Addr) (t : List Nat) (n2 c2 : Nat) (L : Option Addr) (l : List (List Nat)) (nl cl : Nat) (M : Option Addr) (m : List (List Nat)) (nm cm : Nat) (a4 : Int) (w : World) (hT : Tables w)
    (hA : Txt Any w A n c s) (hA2 : Txt Any w A2 n2 c2 t) (hL : TxtL Any w L nl cl l) (hM : TxtL Any w M nm cm m) (w4 : (Lit.int .u32 a4).wf = true) :
    Calls Tryd.prog 7 #[.slice A n c, .slice A2 n2 c2, .slice L nl cl, .slice M nm cm, .int .u32 a4] w fun e w' => e = .returned (.bool true) ∧ Below w.heap.size w w' := by
  obtain ⟨z, rfl, hz⟩ := u32_wf w4
  have hlt := hT.lt
  have HT := Lib.hid hT; have HA := Lib.hid hA; have HA2 := Lib.hid hA2; have HL := Lib.hid hL; have HM := Lib.hid hM
  clear hT hA hA2 hL hM w4
  go_enter Tryd.func7, Tryd.ntmps7
  go_wp2_with fail
  refine (head_any w HT.out).mono ?_
  rintro e' v0 ⟨rfl, hB0⟩
  have HB0 := Lib.hid hB0; clear hB0
  obtain ⟨⟨x1, e1⟩, hr1⟩ : ∃ r, putT s = r := ⟨_, rfl⟩
  obtain ⟨⟨x2, e2⟩, hr2⟩ : ∃ r, putT t = r := ⟨_, rfl⟩
  have HR1 := Lib.hid hr1; have HR2 := Lib.hid hr2; clear hr1 hr2
  go_wp2_with fail
  refine (text_any A s n c v0 (HT.out.below HB0.out hlt) (HA.out.below HB0.out) _ HR1).mono ?_
  rintro e' v1 ⟨B1, p1, q1, rfl, hX1, hB1⟩
  have HX1 := Lib.hid hX1; have HB1 := Lib.hid (HB0.out.trans (hB1.mono HB0.out.size)); clear hX1 hB1
  go_wp2_with fail
  refine (text_any A2 t n2 c2 v1 (HT.out.below HB1.out hlt) (HA2.out.below HB1.out) _ HR2).mono ?_
  rintro e' v2 ⟨B2, p2, q2, rfl, hX2, hB2⟩
  have HX1' := Lib.hid (HX1.out.below hB2).any
  have HX2 := Lib.hid hX2.any; have HB2 := Lib.hid (HB1.out.trans (hB2.mono HB1.out.size)); clear hX2 hB2
  clear HX1
  by_cases h1 : s.length ≤ 1048576
  · have hr1 := HR1.out
    rw [putT_yes h1] at hr1
    obtain ⟨hx1, rfl⟩ : x1 = txB s ∧ e1 = 0 := by injection hr1 with h1 h2; exact ⟨h1.symm, h2.symm⟩
    have HV1 := Lib.hid hx1; clear hr1 hx1
    by_cases h2 : t.length ≤ 1048576
    · have hr2 := HR2.out
      rw [putT_yes h2] at hr2
      obtain ⟨hx2, rfl⟩ : x2 = txB t ∧ e2 = 0 := by injection hr2 with h1 h2; exact ⟨h1.symm, h2.symm⟩
      have HV2 := Lib.hid hx2; clear hr2 hx2
      have hcv1 := (HA.out.below HB2.out).conv
      have hcv2 := (HA2.out.below HB2.out).conv
      have hbeq := txt_beq HA.out.lt HA2.out.lt
      by_cases hst : s = t
      · rw [decide_eq_true hst] at hbeq
        clear hst h1 h2
        obtain ⟨⟨y1, g1⟩, hs1⟩ : ∃ r, putL l = r := ⟨_, rfl⟩
        obtain ⟨⟨y2, g2⟩, hs2⟩ : ∃ r, putL m = r := ⟨_, rfl⟩
        have HS1 := Lib.hid hs1; have HS2 := Lib.hid hs2; clear hs1 hs2
        go_wp2_with fail
        refine (list_any L l nl cl v2 (HT.out.below HB2.out hlt) (HL.out.below HB2.out) _ HS1).mono ?_
        rintro e' v5 ⟨B5, p5, q5, rfl, hX5, hB5⟩
        have HX5 := Lib.hid hX5; have HB5 := Lib.hid (HB2.out.trans (hB5.mono HB2.out.size)); clear hX5 hB5
        go_wp2_with fail
        refine (list_any M m nm cm v5 (HT.out.below HB5.out hlt) (HM.out.below HB5.out) _ HS2).mono ?_
        rintro e' v6 ⟨B6, p6, q6, rfl, hX6, hB6⟩
        have HX5' := Lib.hid (HX5.out.below hB6).any
        have HX6 := Lib.hid hX6.any; have HB6 := Lib.hid (HB5.out.trans (hB6.mono HB5.out.size)); clear hX6 hB6
        clear HX5
        by_cases hg1 : 1048576 < (cat l).length
        · have hs1 := HS1.out
          rw [putL_no hg1] at hs1
          obtain ⟨rfl, rfl⟩ : y1 = [] ∧ g1 = 2 := by injection hs1 with h1 h2; exact ⟨h1.symm, h2.symm⟩
          clear hs1 hg1
          go_wp2
          go_ret
          exact ⟨rfl, HB6.out⟩
        · have hs1 := HS1.out
          rw [putL_ok hg1] at hs1
          obtain ⟨hy1, rfl⟩ : y1 = txB (cat l) ∧ g1 = 0 := by injection hs1 with h1 h2; exact ⟨h1.symm, h2.symm⟩
          clear hs1
          have HY1 := Lib.hid hy1
          have hp5 : 0 < p5 ∧ p5 ≤ 1048580 := by have h1 := HX5'.out.len; rw [hy1, txB_len] at h1; have h2 := szB_pos (cat l).length; omega
          have yp : ¬ (p5 : Int) = 0 := by omega
          clear hy1
          have HG1 := Lib.hid hg1; clear hg1
          by_cases hg2 : 1048576 < (cat m).length
          · have hs2 := HS2.out
            rw [putL_no hg2] at hs2
            obtain ⟨rfl, rfl⟩ : y2 = [] ∧ g2 = 2 := by injection hs2 with h1 h2; exact ⟨h1.symm, h2.symm⟩
            clear hs2 hg2
            go_wp2
            go_ret
            exact ⟨rfl, HB6.out⟩
          · have hs2 := HS2.out
            rw [putL_ok hg2] at hs2
            obtain ⟨hy2, rfl⟩ : y2 = txB (cat m) ∧ g2 = 0 := by injection hs2 with h1 h2; exact ⟨h1.symm, h2.symm⟩
            clear hs2
            have HY2 := Lib.hid hy2; clear hy2
            have HG2 := Lib.hid hg2; clear hg2
            obtain ⟨k, hk1, hk2, hkl⟩ : ∃ k : Nat, (z : Int) % (p5 : Int) = (k : Int) ∧ (z : Int).tmod (p5 : Int) = (k : Int) ∧ k < p5 := ⟨z % p5, by omega, by rw [Int.tmod_eq_emod_of_nonneg (by omega)]; omega, Nat.mod_lt _ hp5.1⟩
            have HCUT := Lib.hid (show getL (y1.take k) 0 = ([], 0, 111) by rw [HY1.out]; exact getL_cut (cat l) k (by have := HG1.out; omega) (by rw [← HY1.out, HX5'.out.len]; exact hkl))
            go_wp2_with fail
            by_cases hlm : l = m
            · have HQ : Hid (decide (l = m) = true) := Lib.hid (decide_eq_true hlm)
              clear hlm
              refine (same_any L M l m nl cl nm cm v6 (HL.out.below HB6.out) (HM.out.below HB6.out) true HQ).mono ?_
              rintro e' v7 ⟨rfl, hB7⟩
              have HX7 := Lib.hid ((HX5'.out.below hB7).head k (by omega))
              have HB7 := Lib.hid (HB6.out.trans (hB7.mono HB6.out.size)); clear hB7
              have hhd := fun W => run_head B5 p5 q5 k (by omega) HX5'.out.2.2.1 HX5'.out.2.2.2.2.1 W
              go_wp2_with fail
              refine (getList_any B5 (y1.take k) k q5 0 v7 (HT.out.below HB7.out hlt) HX7.out (by omega) _ HCUT).mono ?_
              rintro e' v8 ⟨B8, p8, q8, rfl, hX8, hB8⟩
              have HB8 := Lib.hid (HB7.out.trans (hB8.mono HB7.out.size)); clear hX8 hB8
              go_wp2
              go_ret
              exact ⟨rfl, HB8.out⟩
            · have HQ : Hid (decide (l = m) = false) := Lib.hid (decide_eq_false hlm)
              have HP1 : Hid (isPre y2 y1 = false) := Lib.hid (by rw [HY1.out, HY2.out]; exact isPre_no (by have := HG1.out; omega) (by have := HG2.out; omega) (cat_no (by have := HG1.out; omega) (by have := HG2.out; omega) hlm))
              have HP2 : Hid (isPre y1 y2 = false) := Lib.hid (by rw [HY1.out, HY2.out]; exact isPre_no (by have := HG2.out; omega) (by have := HG1.out; omega) (cat_no (by have := HG2.out; omega) (by have := HG1.out; omega) (fun e => hlm e.symm)))
              clear hlm
              refine (same_any L M l m nl cl nm cm v6 (HL.out.below HB6.out) (HM.out.below HB6.out) false HQ).mono ?_
              rintro e' v7 ⟨rfl, hB7⟩
              have HY5 := Lib.hid (HX5'.out.below hB7); have HY6 := Lib.hid (HX6.out.below hB7)
              have HB7 := Lib.hid (HB6.out.trans (hB7.mono HB6.out.size)); clear hB7
              go_wp2_with fail
              refine (begins_any B5 B6 y1 y2 p5 q5 p6 q6 v7 HY5.out HY6.out false HP1).mono ?_
              rintro e' v8 ⟨rfl, hB8⟩
              have HZ5 := Lib.hid (HY5.out.below hB8); have HZ6 := Lib.hid (HY6.out.below hB8)
              have HB8 := Lib.hid (HB7.out.trans (hB8.mono HB7.out.size)); clear hB8
              go_wp2_with fail
              refine (begins_any B6 B5 y2 y1 p6 q6 p5 q5 v8 HZ6.out HZ5.out false HP2).mono ?_
              rintro e' v9 ⟨rfl, hB9⟩
              have HX9 := Lib.hid ((HZ5.out.below hB9).head k (by omega))
              have HB9 := Lib.hid (HB8.out.trans (hB9.mono HB8.out.size)); clear hB9
              have hhd := fun W => run_head B5 p5 q5 k (by omega) HX5'.out.2.2.1 HX5'.out.2.2.2.2.1 W
              go_wp2_with fail
              refine (getList_any B5 (y1.take k) k q5 0 v9 (HT.out.below HB9.out hlt) HX9.out (by omega) _ HCUT).mono ?_
              rintro e' v10 ⟨B10, p10, q10, rfl, hX10, hB10⟩
              have HB10 := Lib.hid (HB9.out.trans (hB10.mono HB9.out.size)); clear hX10 hB10
              go_wp2
              go_ret
              exact ⟨rfl, HB10.out⟩
      · rw [decide_eq_false hst] at hbeq
        have HP1 : Hid (isPre x2 x1 = false) := Lib.hid (by rw [HV1.out, HV2.out]; exact isPre_no h1 h2 hst)
        have HP2 : Hid (isPre x1 x2 = false) := Lib.hid (by rw [HV1.out, HV2.out]; exact isPre_no h2 h1 (fun e => hst e.symm))
        clear hst h1 h2
        go_wp2_with fail
        refine (begins_any B1 B2 x1 x2 p1 q1 p2 q2 v2 HX1'.out HX2.out false HP1).mono ?_
        rintro e' v3 ⟨rfl, hB3⟩
        have HY1 := Lib.hid (HX1'.out.below hB3); have HY2 := Lib.hid (HX2.out.below hB3)
        have HB3 := Lib.hid (HB2.out.trans (hB3.mono HB2.out.size)); clear hB3 hcv1 hcv2 hbeq
        go_wp2_with fail
        refine (begins_any B2 B1 x2 x1 p2 q2 p1 q1 v3 HY2.out HY1.out false HP2).mono ?_
        rintro e' v4 ⟨rfl, hB4⟩
        have HB4 := Lib.hid (HB3.out.trans (hB4.mono HB3.out.size)); clear hB4 HY1 HY2 HP1 HP2
        obtain ⟨⟨y1, g1⟩, hs1⟩ : ∃ r, putL l = r := ⟨_, rfl⟩
        obtain ⟨⟨y2, g2⟩, hs2⟩ : ∃ r, putL m = r := ⟨_, rfl⟩
        have HS1 := Lib.hid hs1; have HS2 := Lib.hid hs2; clear hs1 hs2
        go_wp2_with fail
        refine (list_any L l nl cl v4 (HT.out.below HB4.out hlt) (HL.out.below HB4.out) _ HS1).mono ?_
        rintro e' v5 ⟨B5, p5, q5, rfl, hX5, hB5⟩
        have HX5 := Lib.hid hX5; have HB5 := Lib.hid (HB4.out.trans (hB5.mono HB4.out.size)); clear hX5 hB5
        go_wp2_with fail
        refine (list_any M m nm cm v5 (HT.out.below HB5.out hlt) (HM.out.below HB5.out) _ HS2).mono ?_
        rintro e' v6 ⟨B6, p6, q6, rfl, hX6, hB6⟩
        have HX5' := Lib.hid (HX5.out.below hB6).any
        have HX6 := Lib.hid hX6.any; have HB6 := Lib.hid (HB5.out.trans (hB6.mono HB5.out.size)); clear hX6 hB6
        clear HX5
        by_cases hg1 : 1048576 < (cat l).length
        · have hs1 := HS1.out
          rw [putL_no hg1] at hs1
          obtain ⟨rfl, rfl⟩ : y1 = [] ∧ g1 = 2 := by injection hs1 with h1 h2; exact ⟨h1.symm, h2.symm⟩
          clear hs1 hg1
          go_wp2
          go_ret
          exact ⟨rfl, HB6.out⟩
        · have hs1 := HS1.out
          rw [putL_ok hg1] at hs1
          obtain ⟨hy1, rfl⟩ : y1 = txB (cat l) ∧ g1 = 0 := by injection hs1 with h1 h2; exact ⟨h1.symm, h2.symm⟩
          clear hs1
          have HY1 := Lib.hid hy1
          have hp5 : 0 < p5 ∧ p5 ≤ 1048580 := by have h1 := HX5'.out.len; rw [hy1, txB_len] at h1; have h2 := szB_pos (cat l).length; omega
          have yp : ¬ (p5 : Int) = 0 := by omega
          clear hy1
          have HG1 := Lib.hid hg1; clear hg1
          by_cases hg2 : 1048576 < (cat m).length
          · have hs2 := HS2.out
            rw [putL_no hg2] at hs2
            obtain ⟨rfl, rfl⟩ : y2 = [] ∧ g2 = 2 := by injection hs2 with h1 h2; exact ⟨h1.symm, h2.symm⟩
            clear hs2 hg2
            go_wp2
            go_ret
            exact ⟨rfl, HB6.out⟩
          · have hs2 := HS2.out
            rw [putL_ok hg2] at hs2
            obtain ⟨hy2, rfl⟩ : y2 = txB (cat m) ∧ g2 = 0 := by injection hs2 with h1 h2; exact ⟨h1.symm, h2.symm⟩
            clear hs2
            have HY2 := Lib.hid hy2; clear hy2
            have HG2 := Lib.hid hg2; clear hg2
            obtain ⟨k, hk1, hk2, hkl⟩ : ∃ k : Nat, (z : Int) % (p5 : Int) = (k : Int) ∧ (z : Int).tmod (p5 : Int) = (k : Int) ∧ k < p5 := ⟨z % p5, by omega, by rw [Int.tmod_eq_emod_of_nonneg (by omega)]; omega, Nat.mod_lt _ hp5.1⟩
            have HCUT := Lib.hid (show getL (y1.take k) 0 = ([], 0, 111) by rw [HY1.out]; exact getL_cut (cat l) k (by have := HG1.out; omega) (by rw [← HY1.out, HX5'.out.len]; exact hkl))
            go_wp2_with fail
            by_cases hlm : l = m
            · have HQ : Hid (decide (l = m) = true) := Lib.hid (decide_eq_true hlm)
              clear hlm
              refine (same_any L M l m nl cl nm cm v6 (HL.out.below HB6.out) (HM.out.below HB6.out) true HQ).mono ?_
              rintro e' v7 ⟨rfl, hB7⟩
              have HX7 := Lib.hid ((HX5'.out.below hB7).head k (by omega))
              have HB7 := Lib.hid (HB6.out.trans (hB7.mono HB6.out.size)); clear hB7
              have hhd := fun W => run_head B5 p5 q5 k (by omega) HX5'.out.2.2.1 HX5'.out.2.2.2.2.1 W
              go_wp2_with fail
              refine (getList_any B5 (y1.take k) k q5 0 v7 (HT.out.below HB7.out hlt) HX7.out (by omega) _ HCUT).mono ?_
              rintro e' v8 ⟨B8, p8, q8, rfl, hX8, hB8⟩
              have HB8 := Lib.hid (HB7.out.trans (hB8.mono HB7.out.size)); clear hX8 hB8
              go_wp2
              go_ret
              exact ⟨rfl, HB8.out⟩
            · have HQ : Hid (decide (l = m) = false) := Lib.hid (decide_eq_false hlm)
              have HP1 : Hid (isPre y2 y1 = false) := Lib.hid (by rw [HY1.out, HY2.out]; exact isPre_no (by have := HG1.out; omega) (by have := HG2.out; omega) (cat_no (by have := HG1.out; omega) (by have := HG2.out; omega) hlm))
              have HP2 : Hid (isPre y1 y2 = false) := Lib.hid (by rw [HY1.out, HY2.out]; exact isPre_no (by have := HG2.out; omega) (by have := HG1.out; omega) (cat_no (by have := HG2.out; omega) (by have := HG1.out; omega) (fun e => hlm e.symm)))
              clear hlm
              refine (same_any L M l m nl cl nm cm v6 (HL.out.below HB6.out) (HM.out.below HB6.out) false HQ).mono ?_
              rintro e' v7 ⟨rfl, hB7⟩
              have HY5 := Lib.hid (HX5'.out.below hB7); have HY6 := Lib.hid (HX6.out.below hB7)
              have HB7 := Lib.hid (HB6.out.trans (hB7.mono HB6.out.size)); clear hB7
              go_wp2_with fail
              refine (begins_any B5 B6 y1 y2 p5 q5 p6 q6 v7 HY5.out HY6.out false HP1).mono ?_
              rintro e' v8 ⟨rfl, hB8⟩
              have HZ5 := Lib.hid (HY5.out.below hB8); have HZ6 := Lib.hid (HY6.out.below hB8)
              have HB8 := Lib.hid (HB7.out.trans (hB8.mono HB7.out.size)); clear hB8
              go_wp2_with fail
              refine (begins_any B6 B5 y2 y1 p6 q6 p5 q5 v8 HZ6.out HZ5.out false HP2).mono ?_
              rintro e' v9 ⟨rfl, hB9⟩
              have HX9 := Lib.hid ((HZ5.out.below hB9).head k (by omega))
              have HB9 := Lib.hid (HB8.out.trans (hB9.mono HB8.out.size)); clear hB9
              have hhd := fun W => run_head B5 p5 q5 k (by omega) HX5'.out.2.2.1 HX5'.out.2.2.2.2.1 W
              go_wp2_with fail
              refine (getList_any B5 (y1.take k) k q5 0 v9 (HT.out.below HB9.out hlt) HX9.out (by omega) _ HCUT).mono ?_
              rintro e' v10 ⟨B10, p10, q10, rfl, hX10, hB10⟩
              have HB10 := Lib.hid (HB9.out.trans (hB10.mono HB9.out.size)); clear hX10 hB10
              go_wp2
              go_ret
              exact ⟨rfl, HB10.out⟩
    · have hr2 := HR2.out
      rw [putT_no h2] at hr2
      obtain ⟨rfl, rfl⟩ : x2 = [] ∧ e2 = 2 := by injection hr2 with h1 h2; exact ⟨h1.symm, h2.symm⟩
      clear hr2 h1 h2
      obtain ⟨⟨y1, g1⟩, hs1⟩ : ∃ r, putL l = r := ⟨_, rfl⟩
      obtain ⟨⟨y2, g2⟩, hs2⟩ : ∃ r, putL m = r := ⟨_, rfl⟩
      have HS1 := Lib.hid hs1; have HS2 := Lib.hid hs2; clear hs1 hs2
      go_wp2_with fail
      refine (list_any L l nl cl v2 (HT.out.below HB2.out hlt) (HL.out.below HB2.out) _ HS1).mono ?_
      rintro e' v5 ⟨B5, p5, q5, rfl, hX5, hB5⟩
      have HX5 := Lib.hid hX5; have HB5 := Lib.hid (HB2.out.trans (hB5.mono HB2.out.size)); clear hX5 hB5
      go_wp2_with fail
      refine (list_any M m nm cm v5 (HT.out.below HB5.out hlt) (HM.out.below HB5.out) _ HS2).mono ?_
      rintro e' v6 ⟨B6, p6, q6, rfl, hX6, hB6⟩
      have HX5' := Lib.hid (HX5.out.below hB6).any
      have HX6 := Lib.hid hX6.any; have HB6 := Lib.hid (HB5.out.trans (hB6.mono HB5.out.size)); clear hX6 hB6
      clear HX5
      by_cases hg1 : 1048576 < (cat l).length
      · have hs1 := HS1.out
        rw [putL_no hg1] at hs1
        obtain ⟨rfl, rfl⟩ : y1 = [] ∧ g1 = 2 := by injection hs1 with h1 h2; exact ⟨h1.symm, h2.symm⟩
        clear hs1 hg1
        go_wp2
        go_ret
        exact ⟨rfl, HB6.out⟩
      · have hs1 := HS1.out
        rw [putL_ok hg1] at hs1
        obtain ⟨hy1, rfl⟩ : y1 = txB (cat l) ∧ g1 = 0 := by injection hs1 with h1 h2; exact ⟨h1.symm, h2.symm⟩
        clear hs1
        have HY1 := Lib.hid hy1
        have hp5 : 0 < p5 ∧ p5 ≤ 1048580 := by have h1 := HX5'.out.len; rw [hy1, txB_len] at h1; have h2 := szB_pos (cat l).length; omega
        have yp : ¬ (p5 : Int) = 0 := by omega
        clear hy1
        have HG1 := Lib.hid hg1; clear hg1
        by_cases hg2 : 1048576 < (cat m).length
        · have hs2 := HS2.out
          rw [putL_no hg2] at hs2
          obtain ⟨rfl, rfl⟩ : y2 = [] ∧ g2 = 2 := by injection hs2 with h1 h2; exact ⟨h1.symm, h2.symm⟩
          clear hs2 hg2
          go_wp2
          go_ret
          exact ⟨rfl, HB6.out⟩
        · have hs2 := HS2.out
          rw [putL_ok hg2] at hs2
          obtain ⟨hy2, rfl⟩ : y2 = txB (cat m) ∧ g2 = 0 := by injection hs2 with h1 h2; exact ⟨h1.symm, h2.symm⟩
          clear hs2
          have HY2 := Lib.hid hy2; clear hy2
          have HG2 := Lib.hid hg2; clear hg2
          obtain ⟨k, hk1, hk2, hkl⟩ : ∃ k : Nat, (z : Int) % (p5 : Int) = (k : Int) ∧ (z : Int).tmod (p5 : Int) = (k : Int) ∧ k < p5 := ⟨z % p5, by omega, by rw [Int.tmod_eq_emod_of_nonneg (by omega)]; omega, Nat.mod_lt _ hp5.1⟩
          have HCUT := Lib.hid (show getL (y1.take k) 0 = ([], 0, 111) by rw [HY1.out]; exact getL_cut (cat l) k (by have := HG1.out; omega) (by rw [← HY1.out, HX5'.out.len]; exact hkl))
          go_wp2_with fail
          by_cases hlm : l = m
          · have HQ : Hid (decide (l = m) = true) := Lib.hid (decide_eq_true hlm)
            clear hlm
            refine (same_any L M l m nl cl nm cm v6 (HL.out.below HB6.out) (HM.out.below HB6.out) true HQ).mono ?_
            rintro e' v7 ⟨rfl, hB7⟩
            have HX7 := Lib.hid ((HX5'.out.below hB7).head k (by omega))
            have HB7 := Lib.hid (HB6.out.trans (hB7.mono HB6.out.size)); clear hB7
            have hhd := fun W => run_head B5 p5 q5 k (by omega) HX5'.out.2.2.1 HX5'.out.2.2.2.2.1 W
            go_wp2_with fail
            refine (getList_any B5 (y1.take k) k q5 0 v7 (HT.out.below HB7.out hlt) HX7.out (by omega) _ HCUT).mono ?_
            rintro e' v8 ⟨B8, p8, q8, rfl, hX8, hB8⟩
            have HB8 := Lib.hid (HB7.out.trans (hB8.mono HB7.out.size)); clear hX8 hB8
            go_wp2
            go_ret
            exact ⟨rfl, HB8.out⟩
          · have HQ : Hid (decide (l = m) = false) := Lib.hid (decide_eq_false hlm)
            have HP1 : Hid (isPre y2 y1 = false) := Lib.hid (by rw [HY1.out, HY2.out]; exact isPre_no (by have := HG1.out; omega) (by have := HG2.out; omega) (cat_no (by have := HG1.out; omega) (by have := HG2.out; omega) hlm))
            have HP2 : Hid (isPre y1 y2 = false) := Lib.hid (by rw [HY1.out, HY2.out]; exact isPre_no (by have := HG2.out; omega) (by have := HG1.out; omega) (cat_no (by have := HG2.out; omega) (by have := HG1.out; omega) (fun e => hlm e.symm)))
            clear hlm
            refine (same_any L M l m nl cl nm cm v6 (HL.out.below HB6.out) (HM.out.below HB6.out) false HQ).mono ?_
            rintro e' v7 ⟨rfl, hB7⟩
            have HY5 := Lib.hid (HX5'.out.below hB7); have HY6 := Lib.hid (HX6.out.below hB7)
            have HB7 := Lib.hid (HB6.out.trans (hB7.mono HB6.out.size)); clear hB7
            go_wp2_with fail
            refine (begins_any B5 B6 y1 y2 p5 q5 p6 q6 v7 HY5.out HY6.out false HP1).mono ?_
            rintro e' v8 ⟨rfl, hB8⟩
            have HZ5 := Lib.hid (HY5.out.below hB8); have HZ6 := Lib.hid (HY6.out.below hB8)
            have HB8 := Lib.hid (HB7.out.trans (hB8.mono HB7.out.size)); clear hB8
            go_wp2_with fail
            refine (begins_any B6 B5 y2 y1 p6 q6 p5 q5 v8 HZ6.out HZ5.out false HP2).mono ?_
            rintro e' v9 ⟨rfl, hB9⟩
            have HX9 := Lib.hid ((HZ5.out.below hB9).head k (by omega))
            have HB9 := Lib.hid (HB8.out.trans (hB9.mono HB8.out.size)); clear hB9
            have hhd := fun W => run_head B5 p5 q5 k (by omega) HX5'.out.2.2.1 HX5'.out.2.2.2.2.1 W
            go_wp2_with fail
            refine (getList_any B5 (y1.take k) k q5 0 v9 (HT.out.below HB9.out hlt) HX9.out (by omega) _ HCUT).mono ?_
            rintro e' v10 ⟨B10, p10, q10, rfl, hX10, hB10⟩
            have HB10 := Lib.hid (HB9.out.trans (hB10.mono HB9.out.size)); clear hX10 hB10
            go_wp2
            go_ret
            exact ⟨rfl, HB10.out⟩
  · have hr1 := HR1.out
    rw [putT_no h1] at hr1
    obtain ⟨rfl, rfl⟩ : x1 = [] ∧ e1 = 2 := by injection hr1 with h1 h2; exact ⟨h1.symm, h2.symm⟩
    clear hr1 h1
    obtain ⟨⟨y1, g1⟩, hs1⟩ : ∃ r, putL l = r := ⟨_, rfl⟩
    obtain ⟨⟨y2, g2⟩, hs2⟩ : ∃ r, putL m = r := ⟨_, rfl⟩
    have HS1 := Lib.hid hs1; have HS2 := Lib.hid hs2; clear hs1 hs2
    go_wp2_with fail
    refine (list_any L l nl cl v2 (HT.out.below HB2.out hlt) (HL.out.below HB2.out) _ HS1).mono ?_
    rintro e' v5 ⟨B5, p5, q5, rfl, hX5, hB5⟩
    have HX5 := Lib.hid hX5; have HB5 := Lib.hid (HB2.out.trans (hB5.mono HB2.out.size)); clear hX5 hB5
    go_wp2_with fail
    refine (list_any M m nm cm v5 (HT.out.below HB5.out hlt) (HM.out.below HB5.out) _ HS2).mono ?_
    rintro e' v6 ⟨B6, p6, q6, rfl, hX6, hB6⟩
    have HX5' := Lib.hid (HX5.out.below hB6).any
    have HX6 := Lib.hid hX6.any; have HB6 := Lib.hid (HB5.out.trans (hB6.mono HB5.out.size)); clear hX6 hB6
    clear HX5
    by_cases hg1 : 1048576 < (cat l).length
    · have hs1 := HS1.out
      rw [putL_no hg1] at hs1
      obtain ⟨rfl, rfl⟩ : y1 = [] ∧ g1 = 2 := by injection hs1 with h1 h2; exact ⟨h1.symm, h2.symm⟩
      clear hs1 hg1
      go_wp2
      go_ret
      exact ⟨rfl, HB6.out⟩
    · have hs1 := HS1.out
      rw [putL_ok hg1] at hs1
      obtain ⟨hy1, rfl⟩ : y1 = txB (cat l) ∧ g1 = 0 := by injection hs1 with h1 h2; exact ⟨h1.symm, h2.symm⟩
      clear hs1
      have HY1 := Lib.hid hy1
      have hp5 : 0 < p5 ∧ p5 ≤ 1048580 := by have h1 := HX5'.out.len; rw [hy1, txB_len] at h1; have h2 := szB_pos (cat l).length; omega
      have yp : ¬ (p5 : Int) = 0 := by omega
      clear hy1
      have HG1 := Lib.hid hg1; clear hg1
      by_cases hg2 : 1048576 < (cat m).length
      · have hs2 := HS2.out
        rw [putL_no hg2] at hs2
        obtain ⟨rfl, rfl⟩ : y2 = [] ∧ g2 = 2 := by injection hs2 with h1 h2; exact ⟨h1.symm, h2.symm⟩
        clear hs2 hg2
        go_wp2
        go_ret
        exact ⟨rfl, HB6.out⟩
      · have hs2 := HS2.out
        rw [putL_ok hg2] at hs2
        obtain ⟨hy2, rfl⟩ : y2 = txB (cat m) ∧ g2 = 0 := by injection hs2 with h1 h2; exact ⟨h1.symm, h2.symm⟩
        clear hs2
        have HY2 := Lib.hid hy2; clear hy2
        have HG2 := Lib.hid hg2; clear hg2
        obtain ⟨k, hk1, hk2, hkl⟩ : ∃ k : Nat, (z : Int) % (p5 : Int) = (k : Int) ∧ (z : Int).tmod (p5 : Int) = (k : Int) ∧ k < p5 := ⟨z % p5, by omega, by rw [Int.tmod_eq_emod_of_nonneg (by omega)]; omega, Nat.mod_lt _ hp5.1⟩
        have HCUT := Lib.hid (show getL (y1.take k) 0 = ([], 0, 111) by rw [HY1.out]; exact getL_cut (cat l) k (by have := HG1.out; omega) (by rw [← HY1.out, HX5'.out.len]; exact hkl))
        go_wp2_with fail
        by_cases hlm : l = m
        · have HQ : Hid (decide (l = m) = true) := Lib.hid (decide_eq_true hlm)
          clear hlm
          refine (same_any L M l m nl cl nm cm v6 (HL.out.below HB6.out) (HM.out.below HB6.out) true HQ).mono ?_
          rintro e' v7 ⟨rfl, hB7⟩
          have HX7 := Lib.hid ((HX5'.out.below hB7).head k (by omega))
          have HB7 := Lib.hid (HB6.out.trans (hB7.mono HB6.out.size)); clear hB7
          have hhd := fun W => run_head B5 p5 q5 k (by omega) HX5'.out.2.2.1 HX5'.out.2.2.2.2.1 W
          go_wp2_with fail
          refine (getList_any B5 (y1.take k) k q5 0 v7 (HT.out.below HB7.out hlt) HX7.out (by omega) _ HCUT).mono ?_
          rintro e' v8 ⟨B8, p8, q8, rfl, hX8, hB8⟩
          have HB8 := Lib.hid (HB7.out.trans (hB8.mono HB7.out.size)); clear hX8 hB8
          go_wp2
          go_ret
          exact ⟨rfl, HB8.out⟩
        · have HQ : Hid (decide (l = m) = false) := Lib.hid (decide_eq_false hlm)
          have HP1 : Hid (isPre y2 y1 = false) := Lib.hid (by rw [HY1.out, HY2.out]; exact isPre_no (by have := HG1.out; omega) (by have := HG2.out; omega) (cat_no (by have := HG1.out; omega) (by have := HG2.out; omega) hlm))
          have HP2 : Hid (isPre y1 y2 = false) := Lib.hid (by rw [HY1.out, HY2.out]; exact isPre_no (by have := HG2.out; omega) (by have := HG1.out; omega) (cat_no (by have := HG2.out; omega) (by have := HG1.out; omega) (fun e => hlm e.symm)))
          clear hlm
          refine (same_any L M l m nl cl nm cm v6 (HL.out.below HB6.out) (HM.out.below HB6.out) false HQ).mono ?_
          rintro e' v7 ⟨rfl, hB7⟩
          have HY5 := Lib.hid (HX5'.out.below hB7); have HY6 := Lib.hid (HX6.out.below hB7)
          have HB7 := Lib.hid (HB6.out.trans (hB7.mono HB6.out.size)); clear hB7
          go_wp2_with fail
          refine (begins_any B5 B6 y1 y2 p5 q5 p6 q6 v7 HY5.out HY6.out false HP1).mono ?_
          rintro e' v8 ⟨rfl, hB8⟩
          have HZ5 := Lib.hid (HY5.out.below hB8); have HZ6 := Lib.hid (HY6.out.below hB8)
          have HB8 := Lib.hid (HB7.out.trans (hB8.mono HB7.out.size)); clear hB8
          go_wp2_with fail
          refine (begins_any B6 B5 y2 y1 p6 q6 p5 q5 v8 HZ6.out HZ5.out false HP2).mono ?_
          rintro e' v9 ⟨rfl, hB9⟩
          have HX9 := Lib.hid ((HZ5.out.below hB9).head k (by omega))
          have HB9 := Lib.hid (HB8.out.trans (hB9.mono HB8.out.size)); clear hB9
          have hhd := fun W => run_head B5 p5 q5 k (by omega) HX5'.out.2.2.1 HX5'.out.2.2.2.2.1 W
          go_wp2_with fail
          refine (getList_any B5 (y1.take k) k q5 0 v9 (HT.out.below HB9.out hlt) HX9.out (by omega) _ HCUT).mono ?_
          rintro e' v10 ⟨B10, p10, q10, rfl, hX10, hB10⟩
          have HB10 := Lib.hid (HB9.out.trans (hB10.mono HB9.out.size)); clear hX10 hB10
          go_wp2
          go_ret
          exact ⟨rfl, HB10.out⟩
end Go.Proofs.YthjoafldndgahaaDoor.Wr
