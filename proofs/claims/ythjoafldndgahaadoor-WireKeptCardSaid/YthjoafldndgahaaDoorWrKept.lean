/- Walks: WireKept. -/
import Derived.Test.YthjoafldndgahaaDoorWrHead
namespace Go.Proofs.YthjoafldndgahaaDoor.Wr
set_option linter.all false
open Go.RowKit

set_option maxHeartbeats 4000000 in
set_option maxRecDepth 100000 in
theorem wireKept_walk (A : Option Addr) (b : List Nat) (n c : Nat) (w : World) (hT : Tables w) (hA : Txt Any w A n c b) :
    Calls Tryd.prog 6 #[.slice A n c] w fun e w' => e = .returned (.bool true) ∧ Below w.heap.size w w' := by
  have hlt := hT.lt
  have HT := Lib.hid hT; have HA := Lib.hid hA
  clear hT hA
  go_enter Tryd.func6, Tryd.ntmps6
  go_wp2_with fail
  refine (head_any w HT.out).mono ?_
  rintro e' w0 ⟨rfl, hB0⟩
  have HB0 := Lib.hid hB0; clear hB0
  go_wp2_with fail
  refine (great_any A n c w0).mono ?_
  rintro e' w1 ⟨rfl, rfl⟩
  by_cases hbig : 2097152 < n
  · rw [decide_eq_true hbig]
    go_wp2
    go_ret
    exact ⟨rfl, HB0.out⟩
  rw [decide_eq_false hbig]
  have HTa := Lib.hid (HT.out.below HB0.out hlt)
  have HAa := Lib.hid (HA.out.below HB0.out)
  have HOK := Lib.hid (fun h : (getT b 0).2.2 = 0 => getT_kept HA.out.lt h)
  have HBT := Lib.hid HA.out.lt
  obtain ⟨⟨s, to, er⟩, hG⟩ : ∃ t, getT b 0 = t := ⟨_, rfl⟩
  rw [hG] at HOK
  have HG := Lib.hid hG; clear hG
  go_wp2_with fail
  refine (getText_any A b n c 0 w0 HTa.out HAa.out (by omega) (s, to, er) HG).mono ?_
  rintro e' w1 ⟨A1, n1, c1, rfl, hX1, hB1⟩
  have HX1 := Lib.hid hX1; have HB1 := Lib.hid (HB0.out.trans (hB1.mono HB0.out.size)); clear hX1 hB1
  -- the text
  by_cases he : er = 0
  · subst he
    obtain ⟨k1, k2⟩ := HOK.out rfl
    replace k1 : to ≤ b.length := k1
    rw [HA.out.len] at k1
    have HP := Lib.hid k2; clear k2
    go_wp2_with fail
    refine (text_any A1 s n1 c1 w1 (HT.out.below HB1.out hlt) HX1.out.any _ HP).mono ?_
    rintro e' w2 ⟨A2, n2, c2, rfl, hX2, hB2⟩
    have HB2 := Lib.hid (HB1.out.trans (hB2.mono HB1.out.size))
    have hcv1 := hX2.drew.conv
    have HH := (HA.out.below HB2.out).head to k1
    have hcv2 := HH.drew.conv
    have hhd := fun W => run_head A n c to k1 HA.out.2.2.1 HA.out.2.2.2.2.1 W
    clear hX2 hB2 HH
    have y1 : ¬ (to : Int) < 0 := by omega
    have y2 : ¬ n < to := by omega
    go_wp2
    refine wp_region_still_lit rfl (by kernel_rfl) ?_
    iterate 5 still_step
    rw [show decide ((to : Int) < 0) = false from decide_eq_false (by omega)]
    repeat still_step
    refine wpStill_nil ?_
    change Exit.then _ _ Exit.normal _ (World.drew _)
    have HB3 := Lib.hid HB2.out.drew
    clear hcv1 hcv2 hhd y1 y2
    generalize w2.drew = w3 at *
    have HTb := Lib.hid (HT.out.below HB3.out hlt)
    have HAb := Lib.hid (HA.out.below HB3.out)
    obtain ⟨⟨ls, to2, er2⟩, hG2⟩ : ∃ t, getL b 0 = t := ⟨_, rfl⟩
    have HOK2 := Lib.hid (fun h : (getL b 0).2.2 = 0 => getL_kept HBT.out h)
    have HNO2 := Lib.hid (fun h : (getL b 0).2.2 ≠ 0 => getL_zero b 0 h)
    rw [hG2] at HOK2 HNO2
    have HG2 := Lib.hid hG2; clear hG2
    go_wp2_with fail
    refine (getList_any A b n c 0 w3 HTb.out HAb.out (by omega) (ls, to2, er2) HG2).mono ?_
    rintro e' w5 ⟨A5, n5, c5, rfl, hX5, hB5⟩
    have HX5 := Lib.hid hX5; have HB5 := Lib.hid (HB3.out.trans (hB5.mono HB3.out.size)); clear hX5 hB5
    by_cases he2 : er2 = 0
    · subst he2
      obtain ⟨k3, k4⟩ := HOK2.out rfl
      replace k3 : to2 ≤ b.length := k3
      rw [HA.out.len] at k3
      have HP2 := Lib.hid k4; clear k4
      go_wp2_with fail
      refine (list_any A5 ls n5 c5 w5 (HT.out.below HB5.out hlt) HX5.out.any _ HP2).mono ?_
      rintro e' w6 ⟨A6, n6, c6, rfl, hX6, hB6⟩
      have HB6 := Lib.hid (HB5.out.trans (hB6.mono HB5.out.size))
      have hcv3 := hX6.drew.conv
      have HH2 := (HA.out.below HB6.out).head to2 k3
      have hcv4 := HH2.drew.conv
      have hhd2 := fun W => run_head A n c to2 k3 HA.out.2.2.1 HA.out.2.2.2.2.1 W
      clear hX6 hB6 HH2
      have y4 : ¬ n < to2 := by omega
      have y5 : to2 ≤ n := by omega
      go_wp2
      refine wp_region_still_tail 24 rfl (by kernel_rfl) ?_
      simp only [List.take_succ_cons, List.take_zero, List.drop_succ_cons, List.drop_zero]
      repeat still_step
      refine wpStill_nil ?_
      change wpList _ _ _ _ _ (World.drew _)
      go_wp2
      go_ret
      exact ⟨rfl, HB6.out.drew⟩
    · obtain ⟨k5, k6⟩ := HNO2.out he2
      replace k5 : ls = [] := k5
      replace k6 : to2 = 0 := k6
      subst k5 k6
      obtain rfl : 0 = n5 := HX5.out.1
      have y4 : ¬ (er2 : Int) = 0 := by omega
      go_wp2
      go_ret
      exact ⟨rfl, HB5.out⟩
  · have y1 : ¬ (er : Int) = 0 := by omega
    have HTb := Lib.hid (HT.out.below HB1.out hlt)
    have HAb := Lib.hid (HA.out.below HB1.out)
    obtain ⟨⟨ls, to2, er2⟩, hG2⟩ : ∃ t, getL b 0 = t := ⟨_, rfl⟩
    have HOK2 := Lib.hid (fun h : (getL b 0).2.2 = 0 => getL_kept HBT.out h)
    have HNO2 := Lib.hid (fun h : (getL b 0).2.2 ≠ 0 => getL_zero b 0 h)
    rw [hG2] at HOK2 HNO2
    have HG2 := Lib.hid hG2; clear hG2
    go_wp2_with fail
    refine (getList_any A b n c 0 w1 HTb.out HAb.out (by omega) (ls, to2, er2) HG2).mono ?_
    rintro e' w5 ⟨A5, n5, c5, rfl, hX5, hB5⟩
    have HX5 := Lib.hid hX5; have HB5 := Lib.hid (HB1.out.trans (hB5.mono HB1.out.size)); clear hX5 hB5
    by_cases he2 : er2 = 0
    · subst he2
      obtain ⟨k3, k4⟩ := HOK2.out rfl
      replace k3 : to2 ≤ b.length := k3
      rw [HA.out.len] at k3
      have HP2 := Lib.hid k4; clear k4
      go_wp2_with fail
      refine (list_any A5 ls n5 c5 w5 (HT.out.below HB5.out hlt) HX5.out.any _ HP2).mono ?_
      rintro e' w6 ⟨A6, n6, c6, rfl, hX6, hB6⟩
      have HB6 := Lib.hid (HB5.out.trans (hB6.mono HB5.out.size))
      have hcv3 := hX6.drew.conv
      have HH2 := (HA.out.below HB6.out).head to2 k3
      have hcv4 := HH2.drew.conv
      have hhd2 := fun W => run_head A n c to2 k3 HA.out.2.2.1 HA.out.2.2.2.2.1 W
      clear hX6 hB6 HH2
      have y4 : ¬ n < to2 := by omega
      have y5 : to2 ≤ n := by omega
      go_wp2
      refine wp_region_still_tail 24 rfl (by kernel_rfl) ?_
      simp only [List.take_succ_cons, List.take_zero, List.drop_succ_cons, List.drop_zero]
      repeat still_step
      refine wpStill_nil ?_
      change wpList _ _ _ _ _ (World.drew _)
      go_wp2
      go_ret
      exact ⟨rfl, HB6.out.drew⟩
    · obtain ⟨k5, k6⟩ := HNO2.out he2
      replace k5 : ls = [] := k5
      replace k6 : to2 = 0 := k6
      subst k5 k6
      obtain rfl : 0 = n5 := HX5.out.1
      have y4 : ¬ (er2 : Int) = 0 := by omega
      go_wp2
      go_ret
      exact ⟨rfl, HB5.out⟩
end Go.Proofs.YthjoafldndgahaaDoor.Wr
