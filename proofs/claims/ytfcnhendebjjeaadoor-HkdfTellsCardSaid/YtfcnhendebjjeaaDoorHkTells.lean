/- Walks: HkdfTells. -/
import Derived.Test.YtfcnhendebjjeaaDoorHkRefL
import Derived.Test.YtfcnhendebjjeaaDoorHkParts
namespace Go.Proofs.YtfcnhendebjjeaaDoor.Sha
set_option linter.all false
open Go.RowKit Iter
attribute [local go_sem ↓] Go.wp_at_zero Go.wp_at_succ

theorem Bytes.grown {w w' : World} {g g' n : Nat} (h : Bytes w g n) (hg : w.grownBy w' (some g')) (hne : g ≠ g') : Bytes w' g n := by
  obtain ⟨cur, h1, h2⟩ := h
  have hlt : g < w.heap.size := (Array.getElem?_eq_some_iff.1 h1).1
  exact ⟨cur, (hg.block g hlt (by intro e; injection e; omega)).trans h1, h2⟩
theorem Held.grown {lo g : Nat} {v : Value} {bs : List Nat} {w w' : World} (h : Held lo v bs w) (hg : w.grownBy w' (some g)) (hl : g < lo) : Held lo v bs w' :=
  h.kept hg.size fun p h1 h2 => World.cell?_of_block (hg.block p.block h2 (by intro e; injection e; omega))
theorem Held.drew {lo : Nat} {v : Value} {bs : List Nat} {w : World} (h : Held lo v bs w) : Held lo v bs w.drew := h.kept (Nat.le_refl _) fun _ _ _ => rfl

set_option maxHeartbeats 8000000 in
set_option maxRecDepth 100000 in
theorem tells_walk (s : ByteArray) (A A2 : Option Addr) (a b : List Nat) (na nb ca cb : Nat) (x : Int) (w : World) (hT : Tables w) (hRa : Rd w w.heap.size A a) (hRb : Rd w w.heap.size A2 b) (hna : a.length = na) (hnb : b.length = nb)
    (hca : A = none → ca = 0) (hcb : A2 = none → cb = 0) (hma : na ≤ 17000) (hmb : nb ≤ 17000) (hs : s.size ≤ 1000) (hx : ¬ (300 < x ∧ x ≤ 8160)) :
    Calls Tryd.prog 3 #[.slice A na ca, .slice A2 nb cb, .string s, .int .i64 x] w fun e w' => e = .returned (.bool true) ∧ Below w.heap.size w w' := by
  have h2 := hT.lt
  have HT := Lib.hid hT; have HRa := Lib.hid hRa; have HRb := Lib.hid hRb; have HNa := Lib.hid (fun _ : Unit => hna); have HNb := Lib.hid (fun _ : Unit => hnb); have HCa := Lib.hid hca; have HCb := Lib.hid hcb
  clear hT hRa hRb hna hnb hca hcb
  have y1 : ¬ (1000 : Int) < (s.size : Int) := by omega
  obtain ⟨M, hM⟩ : ∃ M, mac a b = M := ⟨_, rfl⟩
  have HM := Lib.hid (fun _ : Unit => hM); clear hM
  obtain ⟨X, hX⟩ : ∃ X, exp a b x = X := ⟨_, rfl⟩
  have HX := Lib.hid (fun _ : Unit => hX); clear hX
  obtain ⟨L, hL⟩ : ∃ L, lab a s b x = L := ⟨_, rfl⟩
  have HL := Lib.hid (fun _ : Unit => hL); clear hL
  have hxx : (300 < x ∧ ¬ x ≤ 8160) ∨ ¬ 300 < x := by omega
  clear hx
  go_enter Tryd.func3, Tryd.ntmps3
  go_wp2_with fail
  refine (head_any _ HT.out).mono ?_
  rintro e' w1 ⟨rfl, hB1⟩
  have HB1 := Lib.hid hB1; clear hB1
  go_wp2_with fail
  refine (great_no _ _ _ _ hma).mono ?_
  rintro e' w2 ⟨rfl, rfl⟩
  go_wp2_with fail
  refine (great_no _ _ _ _ hmb).mono ?_
  rintro e' w2 ⟨rfl, rfl⟩
  have hs1 := HB1.out.size
  have HNIL := Lib.hid (nil_own w1 (base := w1.heap.size) (Nat.le_refl _))
  have HB1a := Lib.hid (HB1.out.alloc hs1 (.cells #[] 5))
  have HRa1 := Lib.hid (HRa.out.below HB1a.out)
  rcases hxx with ⟨z3, z4⟩ | z3
  · go_wp2_with (at_builtin; refine wpList_append_rd rfl (.tmp 39) (.tmp 40) rfl w1.heap.size w1.heap.size 0 0 na ca w.heap.size [] a A rfl rfl HNIL.out HRa1.out (HNa.out ()) HCa.out (by omega) (by simp) ?_)
    intro gk capk w3 hown hgrow hat
    try simp only [Nat.zero_add, List.nil_append] at hown
    have HO3 := Lib.hid hown; have HB3 := Lib.hid (below_of_only HB1a.out hgrow hs1)
    clear hown hgrow hat HNIL HB1a HRa1
    have hs3 := HB3.out.size
    have HNIL := Lib.hid (nil_own w3 (base := w3.heap.size) (Nat.le_refl _))
    have HB3a := Lib.hid (HB3.out.alloc hs3 (.cells #[] 5))
    have HRb3 := Lib.hid (HRb.out.below HB3a.out)
    go_wp2_with (at_builtin; refine wpList_append_rd rfl (.tmp 42) (.tmp 43) rfl w3.heap.size w3.heap.size 0 0 nb cb w.heap.size [] b A2 rfl rfl HNIL.out HRb3.out (HNb.out ()) HCb.out (by omega) (by simp) ?_)
    intro gt capt w4 hown hgrow hat
    try simp only [Nat.zero_add, List.nil_append] at hown
    have HO4 := Lib.hid hown; have HB4 := Lib.hid (below_of_only HB3a.out hgrow hs3); have HC4 := Lib.hid (below_of_only ((Below.refl w3.heap.size w3).alloc (Nat.le_refl _) (.cells #[] 5)) hgrow (Nat.le_refl _))
    clear hown hgrow hat HNIL HB3a HRb3
    have hs4 := HB4.out.size
    have HO34 := Lib.hid (own_below HO3.out HC4.out (Nat.le_refl _))
    have hgk1 := (HO3.out.lt gk rfl).1
    have hgk2 := (HO3.out.lt gk rfl).2
    have hgt1 := (HO4.out.lt gt rfl).1
    have hgt2 := (HO4.out.lt gt rfl).2
    have hs34 := HC4.out.size
    have hne : gt ≠ gk := by omega
    have hcp := own_cap HO34.out
    have hct := own_cap HO4.out
    unfold maxLen at hcp hct
    have HRk := Lib.hid (rd_of_own HO34.out HRa.out.1 (Nat.le_refl _))
    have HRt := Lib.hid (rd_of_own HO4.out HRb.out.1 (Nat.le_refl _))
    clear HO3 HC4
    go_wp2_with fail
    refine (mac_told (some ⟨gk, 0, none⟩) (some ⟨gt, 0, none⟩) a b na capk nb capt w4 (HT.out.below HB4.out h2) HRk.out (HNa.out ()) hcp.1 hcp.2 (by omega) HRt.out (HNb.out ()) hct.1 hct.2 (by omega)).mono ?_
    rintro e' w5 ⟨v5, rfl, hh, hB⟩
    rw [HM.out ()] at hh
    have HE5 := Lib.hid hB; have HD5 := Lib.hid (HB4.out.trans (hB.mono hs4)); have HH5_5 := Lib.hid hh
    clear hh hB
    obtain ⟨A5, n5, c5, rfl, -⟩ := id HH5_5.out
    go_wp2_with fail
    refine (extract_told (some ⟨gk, 0, none⟩) (some ⟨gt, 0, none⟩) a b na capk nb capt w5 (HT.out.below HD5.out h2) ((HRk.out.below HE5.out).more HE5.out.size) (HNa.out ()) hcp.1 hcp.2 (by omega) ((HRt.out.below HE5.out).more HE5.out.size) (HNb.out ()) hct.1 hct.2 (by omega)).mono ?_
    rintro e' w6 ⟨v6, rfl, hh, hB⟩
    rw [HM.out ()] at hh
    have HE6 := Lib.hid (HE5.out.trans (hB.mono HE5.out.size)); have HD6 := Lib.hid (HD5.out.trans (hB.mono HD5.out.size)); have HH6_6 := Lib.hid (hh.lower (lo' := w4.heap.size) HE5.out.size)
    have HH5_6 := Lib.hid (HH5_5.out.below hB)
    clear hh hB
    obtain ⟨A6, n6, c6, rfl, -⟩ := id HH6_6.out
    go_wp2_with fail
    refine (expand_told (some ⟨gk, 0, none⟩) (some ⟨gt, 0, none⟩) a b na capk nb capt x w6 (HT.out.below HD6.out h2) ((HRk.out.below HE6.out).more HE6.out.size) (HNa.out ()) hcp.1 hcp.2 (by omega) ((HRt.out.below HE6.out).more HE6.out.size) (HNb.out ()) hct.1 hct.2 (by omega)).mono ?_
    rintro e' w7 ⟨v7, rfl, hh, hB⟩
    rw [HX.out ()] at hh
    have HE7 := Lib.hid (HE6.out.trans (hB.mono HE6.out.size)); have HD7 := Lib.hid (HD6.out.trans (hB.mono HD6.out.size)); have HH7_7 := Lib.hid (hh.lower (lo' := w4.heap.size) HE6.out.size)
    have HH5_7 := Lib.hid (HH5_6.out.below hB)
    have HH6_7 := Lib.hid (HH6_6.out.below hB)
    clear hh hB
    obtain ⟨A7, n7, c7, rfl, -⟩ := id HH7_7.out
    go_wp2_with fail
    refine (label_told s (some ⟨gk, 0, none⟩) (some ⟨gt, 0, none⟩) a b na capk nb capt x w7 (HT.out.below HD7.out h2) ((HRk.out.below HE7.out).more HE7.out.size) (HNa.out ()) hcp.1 hcp.2 (by omega) ((HRt.out.below HE7.out).more HE7.out.size) (HNb.out ()) (fun e => by cases e)).mono ?_
    rintro e' w8 ⟨v8, rfl, hh, hB⟩
    rw [HL.out ()] at hh
    have HE8 := Lib.hid (HE7.out.trans (hB.mono HE7.out.size)); have HD8 := Lib.hid (HD7.out.trans (hB.mono HD7.out.size)); have HH8_8 := Lib.hid (hh.lower (lo' := w4.heap.size) HE7.out.size)
    have HH5_8 := Lib.hid (HH5_7.out.below hB)
    have HH6_8 := Lib.hid (HH6_7.out.below hB)
    have HH7_8 := Lib.hid (HH7_7.out.below hB)
    clear hh hB
    obtain ⟨A8, n8, c8, rfl, -⟩ := id HH8_8.out
    have HBK := Lib.hid (bytes_of_own (own_below HO34.out HE8.out (Nat.le_refl _)))
    have HBT := Lib.hid (bytes_of_own (own_below HO4.out HE8.out (Nat.le_refl _)))
    clear HRk HRt HO34 HO4 HE5 HE6 HE7 HE8 HD5 HD6 HD7 HH5_5 HH5_6 HH5_7 HH6_6 HH6_7 HH7_7
    have hlk : gk < w4.heap.size := by omega
    have hlw : w.heap.size ≤ gk := by omega
    have hlw2 : w.heap.size ≤ gt := by omega
    obtain ⟨lo, hlo⟩ : ∃ lo, w4.heap.size = lo := ⟨_, rfl⟩
    rw [hlo] at HH5_8 HH6_8 HH7_8 HH8_8 hlk hgt2
    clear hlo
    go_wp2_with fail
    go_loopw [16] (fun i W => ∃ k : Nat, k ≤ na ∧ i = .int .i64 k ∧ Hid (Bytes W gk na) ∧ Hid (Bytes W gt nb) ∧ Hid (Held lo (.slice A5 n5 c5) M W) ∧ Hid (Held lo (.slice A6 n6 c6) M W) ∧ Hid (Held lo (.slice A7 n7 c7) X W) ∧ Hid (Held lo (.slice A8 n8 c8) L W) ∧ Hid (Below w.heap.size w W)) (fun i _ => na - (intOf i).toNat)
    case atStart => exact ⟨0, by omega, rfl, HBK, HBT, HH5_8, HH6_8, HH7_8, HH8_8, HD8⟩
    case round =>
      obtain ⟨k, hk, rfl, HBK2, HBT2, HP5, HP6, HP7, HP8, HDP⟩ := hrel
      by_cases hkn : k < na
      · obtain ⟨z, c0⟩ := HBK2.out.cell k hkn
        have f0 := HBK2.out.frozen k
        have yk : (k : Int) < (na : Int) := by omega
        go_wp2
        go_roundw
        case rel =>
          have hset := fun u => only_set (World.grownBy.refl wr (some gk)) (p := ⟨gk, k, none⟩) (.inl rfl) u
          exact ⟨k + 1, by omega, by go_num, Lib.hid (HBK2.out.set k _), Lib.hid (HBT2.out.grown (hset _) hne), Lib.hid (HP5.out.grown (hset _) hlk), Lib.hid (HP6.out.grown (hset _) hlk), Lib.hid (HP7.out.grown (hset _) hlk), Lib.hid (HP8.out.grown (hset _) hlk), Lib.hid (HDP.out.setCell hlw _)⟩
        case measure => simp [intOf]; omega
      · have yk : ¬ (k : Int) < (na : Int) := by omega
        go_wp2_with fail
        go_loopw [17] (fun i W => ∃ k : Nat, k ≤ nb ∧ i = .int .i64 k ∧ Hid (Bytes W gt nb) ∧ Hid (Held lo (.slice A5 n5 c5) M W) ∧ Hid (Held lo (.slice A6 n6 c6) M W) ∧ Hid (Held lo (.slice A7 n7 c7) X W) ∧ Hid (Held lo (.slice A8 n8 c8) L W) ∧ Hid (Below w.heap.size w W)) (fun i _ => nb - (intOf i).toNat)
        case atStart => exact ⟨0, by omega, rfl, HBT2, HP5, HP6, HP7, HP8, HDP⟩
        case round =>
          clear HBT2 HP5 HP6 HP7 HP8 HDP
          obtain ⟨k2, hk2, rfl, HBT2, HP5, HP6, HP7, HP8, HDP⟩ := hrel
          by_cases hkn2 : k2 < nb
          · obtain ⟨z, c0⟩ := HBT2.out.cell k2 hkn2
            have f0 := HBT2.out.frozen k2
            have yk2 : (k2 : Int) < (nb : Int) := by omega
            go_wp2
            go_roundw
            case rel =>
              have hset := fun u => only_set (World.grownBy.refl wr (some gt)) (p := ⟨gt, k2, none⟩) (.inl rfl) u
              exact ⟨k2 + 1, by omega, by go_num, Lib.hid (HBT2.out.set k2 _), Lib.hid (HP5.out.grown (hset _) hgt2), Lib.hid (HP6.out.grown (hset _) hgt2), Lib.hid (HP7.out.grown (hset _) hgt2), Lib.hid (HP8.out.grown (hset _) hgt2), Lib.hid (HDP.out.setCell hlw2 _)⟩
            case measure => simp [intOf]; omega
          · have yk2 : ¬ (k2 : Int) < (nb : Int) := by omega
            go_wp2_with fail
            refine region_calm ?_
            refine wp_region_any (by kernel_rfl) ?_
            change wpAny _ _ _ _ _ _ _ (World.drew _)
            replace HP5 := Lib.hid HP5.out.drew; replace HP6 := Lib.hid HP6.out.drew; replace HP7 := Lib.hid HP7.out.drew; replace HP8 := Lib.hid HP8.out.drew; replace HDP := Lib.hid HDP.out.drew
            generalize World.drew _ = wd at *
            have hsd := HDP.out.size
            have HS0 : Hid (∀ w', w' = wd → (convert 22 9 (.slice A5 n5 c5)).run Tryd.prog w' = .ok (.string (txt M)) w' ∧ (convert 22 9 (.slice A6 n6 c6)).run Tryd.prog w' = .ok (.string (txt M)) w' ∧ (convert 22 9 (.slice A7 n7 c7)).run Tryd.prog w' = .ok (.string (txt X)) w' ∧ (convert 22 9 (.slice A8 n8 c8)).run Tryd.prog w' = .ok (.string (txt L)) w') := Lib.hid (by rintro w' rfl; exact ⟨HP5.out.conv, HP6.out.conv, HP7.out.conv, HP8.out.conv⟩)
            refine wpAny_of_held (S := fun w' => (convert 22 9 (.slice A5 n5 c5)).run Tryd.prog w' = .ok (.string (txt M)) w' ∧ (convert 22 9 (.slice A6 n6 c6)).run Tryd.prog w' = .ok (.string (txt M)) w' ∧ (convert 22 9 (.slice A7 n7 c7)).run Tryd.prog w' = .ok (.string (txt X)) w' ∧ (convert 22 9 (.slice A8 n8 c8)).run Tryd.prog w' = .ok (.string (txt L)) w') _ _ _ _ ?_
            refine wpAnyH_take (i := 0) (v := ?v0n1) rfl (by kernel_rfl) (by kernel_rfl) (by kernel_rfl) (fun _ _ _ h => h) (Or.inl ⟨by rfl, ?y0n1⟩) (HS0.out _ rfl) ?r0n1
            case y0n1 => (intro w' hSw; clear hSw; go_simp; try with_reducible rfl)
            simp only [List.getElem_toArray, List.getElem_cons_succ, List.getElem_cons_zero, Act.put, List.setIfInBounds_toArray, List.set_cons_zero, List.set_cons_succ]
            refine wpAnyH_take (i := 1) (v := ?v1n2) rfl (by kernel_rfl) (by kernel_rfl) (by kernel_rfl) (fun _ _ _ h => h) (Or.inl ⟨by rfl, ?y1n2⟩) (HS0.out _ rfl) ?r1n2
            case y1n2 => (intro w' hSw; clear hSw; go_simp; try with_reducible rfl)
            simp only [List.getElem_toArray, List.getElem_cons_succ, List.getElem_cons_zero, Act.put, List.setIfInBounds_toArray, List.set_cons_zero, List.set_cons_succ]
            refine wpAnyH_take (i := 2) (v := ?v2n3) rfl (by kernel_rfl) (by kernel_rfl) (by kernel_rfl) (fun _ _ _ h => h) (Or.inl ⟨by rfl, ?y2n3⟩) (HS0.out _ rfl) ?r2n3
            case y2n3 => (intro w' hSw; clear hSw; go_simp; try with_reducible rfl)
            simp only [List.getElem_toArray, List.getElem_cons_succ, List.getElem_cons_zero, Act.put, List.setIfInBounds_toArray, List.set_cons_zero, List.set_cons_succ]
            refine wpAnyH_take (i := 3) (v := ?v3n4) rfl (by kernel_rfl) (by kernel_rfl) (by kernel_rfl) (fun _ _ _ h => h) (Or.inl ⟨by rfl, ?y3n4⟩) (HS0.out _ rfl) ?r3n4
            case y3n4 => (intro w' hSw; have s1 := hSw.1; (try dsimp only at s1); clear hSw; go_simp; try with_reducible rfl)
            simp only [List.getElem_toArray, List.getElem_cons_succ, List.getElem_cons_zero, Act.put, List.setIfInBounds_toArray, List.set_cons_zero, List.set_cons_succ]
            refine wpAnyH_take (i := 4) (v := ?v4n5) rfl (by kernel_rfl) (by kernel_rfl) (by kernel_rfl) (fun _ _ _ h => h) (Or.inl ⟨by rfl, ?y4n5⟩) (HS0.out _ rfl) ?r4n5
            case y4n5 => (intro w' hSw; clear hSw; go_simp; try with_reducible rfl)
            simp only [List.getElem_toArray, List.getElem_cons_succ, List.getElem_cons_zero, Act.put, List.setIfInBounds_toArray, List.set_cons_zero, List.set_cons_succ]
            refine wpAnyH_take (i := 5) (v := ?v5n6) rfl (by kernel_rfl) (by kernel_rfl) (by kernel_rfl) (fun _ _ _ h => h) (Or.inl ⟨by rfl, ?y5n6⟩) (HS0.out _ rfl) ?r5n6
            case y5n6 => (intro w' hSw; clear hSw; go_simp; try with_reducible rfl)
            simp only [List.getElem_toArray, List.getElem_cons_succ, List.getElem_cons_zero, Act.put, List.setIfInBounds_toArray, List.set_cons_zero, List.set_cons_succ]
            refine wpAnyH_ready (rs := [6]) (by kernel_rfl) (by simp) ?_
            refine AllReadyH.cons rfl (fun K hK => ?_) AllReadyH.nil
            simp only [List.getElem_toArray, List.getElem_cons_succ, List.getElem_cons_zero]
            go_simp
            refine (rmac_told A A2 a b na ca nb cb wd ((HRa.out.below HDP.out).more HDP.out.size) (HNa.out ()) HCa.out (by omega) ((HRb.out.below HDP.out).more HDP.out.size) (HNb.out ()) HCb.out (by omega)).mono ?_
            rintro e' wq0 ⟨v20, rfl, hh, hB⟩
            rw [HM.out ()] at hh
            have HT20 := Lib.hid hh
            have HT5 := Lib.hid ((HP5.out).below hB)
            have HT6 := Lib.hid ((HP6.out).below hB)
            have HT7 := Lib.hid ((HP7.out).below hB)
            have HT8 := Lib.hid ((HP8.out).below hB)
            have HDN0 := Lib.hid (HDP.out.trans (hB.mono HDP.out.size))
            clear hh hB
            obtain ⟨A20, n20, c20, rfl, -⟩ := id HT20.out
            refine hK.out _ _ ⟨HT5.out.conv, HT6.out.conv, HT7.out.conv, HT8.out.conv⟩ (fun _ => ?_)
            clear hK K
            try simp only [List.getElem_toArray, List.getElem_cons_succ, List.getElem_cons_zero, Act.put, List.setIfInBounds_toArray, List.set_cons_zero, List.set_cons_succ]
            refine wpAnyH_more (S' := fun w' => (convert 22 9 (.slice A20 n20 c20)).run Tryd.prog w' = .ok (.string (txt M)) w' ∧ (convert 22 9 (.slice A5 n5 c5)).run Tryd.prog w' = .ok (.string (txt M)) w' ∧ (convert 22 9 (.slice A6 n6 c6)).run Tryd.prog w' = .ok (.string (txt M)) w' ∧ (convert 22 9 (.slice A7 n7 c7)).run Tryd.prog w' = .ok (.string (txt X)) w' ∧ (convert 22 9 (.slice A8 n8 c8)).run Tryd.prog w' = .ok (.string (txt L)) w') (fun _ h => h.2) _ _ _ _ ?_
            have HR0_20 := HT20
            have HR0_5 := HT5
            have HR0_6 := HT6
            have HR0_7 := HT7
            have HR0_8 := HT8
            clear HT20 HT5 HT6 HT7 HT8
            have HS1 : Hid (∀ w', w' = wq0 → (convert 22 9 (.slice A20 n20 c20)).run Tryd.prog w' = .ok (.string (txt M)) w' ∧ (convert 22 9 (.slice A5 n5 c5)).run Tryd.prog w' = .ok (.string (txt M)) w' ∧ (convert 22 9 (.slice A6 n6 c6)).run Tryd.prog w' = .ok (.string (txt M)) w' ∧ (convert 22 9 (.slice A7 n7 c7)).run Tryd.prog w' = .ok (.string (txt X)) w' ∧ (convert 22 9 (.slice A8 n8 c8)).run Tryd.prog w' = .ok (.string (txt L)) w') := Lib.hid (by rintro w' rfl; exact ⟨HR0_20.out.conv, HR0_5.out.conv, HR0_6.out.conv, HR0_7.out.conv, HR0_8.out.conv⟩)
            refine wpAnyH_take (i := 7) (v := ?v7n7) rfl (by kernel_rfl) (by kernel_rfl) (by kernel_rfl) (fun _ _ _ h => h) (Or.inl ⟨by rfl, ?y7n7⟩) (HS1.out _ rfl) ?r7n7
            case y7n7 => (intro w' hSw; have s1 := hSw.1; (try dsimp only at s1); clear hSw; go_simp; try with_reducible rfl)
            simp only [List.getElem_toArray, List.getElem_cons_succ, List.getElem_cons_zero, Act.put, List.setIfInBounds_toArray, List.set_cons_zero, List.set_cons_succ]
            refine wpAnyH_take (i := 8) (v := ?v8n8) rfl (by kernel_rfl) (by kernel_rfl) (by kernel_rfl) (fun _ _ _ h => h) (Or.inl ⟨by rfl, ?y8n8⟩) (HS1.out _ rfl) ?r8n8
            case y8n8 => (intro w' hSw; clear hSw; go_simp; try with_reducible rfl)
            simp only [List.getElem_toArray, List.getElem_cons_succ, List.getElem_cons_zero, Act.put, List.setIfInBounds_toArray, List.set_cons_zero, List.set_cons_succ]
            refine wpAnyH_take (i := 9) (v := ?v9n9) rfl (by kernel_rfl) (by kernel_rfl) (by kernel_rfl) (fun _ _ _ h => h) (Or.inl ⟨by rfl, ?y9n9⟩) (HS1.out _ rfl) ?r9n9
            case y9n9 => (intro w' hSw; clear hSw; go_simp; try with_reducible rfl)
            simp only [List.getElem_toArray, List.getElem_cons_succ, List.getElem_cons_zero, Act.put, List.setIfInBounds_toArray, List.set_cons_zero, List.set_cons_succ]
            refine wpAnyH_take (i := 10) (v := ?v10n10) rfl (by kernel_rfl) (by kernel_rfl) (by kernel_rfl) (fun _ _ _ h => h) (Or.inl ⟨by rfl, ?y10n10⟩) (HS1.out _ rfl) ?r10n10
            case y10n10 => (intro w' hSw; clear hSw; go_simp; try with_reducible rfl)
            simp only [List.getElem_toArray, List.getElem_cons_succ, List.getElem_cons_zero, Act.put, List.setIfInBounds_toArray, List.set_cons_zero, List.set_cons_succ]
            refine wpAnyH_take (i := 11) (v := ?v11n11) rfl (by kernel_rfl) (by kernel_rfl) (by kernel_rfl) (fun _ _ _ h => h) (Or.inl ⟨by rfl, ?y11n11⟩) (HS1.out _ rfl) ?r11n11
            case y11n11 => (intro w' hSw; clear hSw; go_simp; try with_reducible rfl)
            simp only [List.getElem_toArray, List.getElem_cons_succ, List.getElem_cons_zero, Act.put, List.setIfInBounds_toArray, List.set_cons_zero, List.set_cons_succ]
            refine wpAnyH_take (i := 12) (v := ?v12n12) rfl (by kernel_rfl) (by kernel_rfl) (by kernel_rfl) (fun _ _ _ h => h) (Or.inl ⟨by rfl, ?y12n12⟩) (HS1.out _ rfl) ?r12n12
            case y12n12 => (intro w' hSw; have s1 := hSw.2.2.1; (try dsimp only at s1); clear hSw; go_simp; try with_reducible rfl)
            simp only [List.getElem_toArray, List.getElem_cons_succ, List.getElem_cons_zero, Act.put, List.setIfInBounds_toArray, List.set_cons_zero, List.set_cons_succ]
            refine wpAnyH_take (i := 13) (v := ?v13n13) rfl (by kernel_rfl) (by kernel_rfl) (by kernel_rfl) (fun _ _ _ h => h) (Or.inl ⟨by rfl, ?y13n13⟩) (HS1.out _ rfl) ?r13n13
            case y13n13 => (intro w' hSw; clear hSw; go_simp; try with_reducible rfl)
            simp only [List.getElem_toArray, List.getElem_cons_succ, List.getElem_cons_zero, Act.put, List.setIfInBounds_toArray, List.set_cons_zero, List.set_cons_succ]
            refine wpAnyH_take (i := 14) (v := ?v14n14) rfl (by kernel_rfl) (by kernel_rfl) (by kernel_rfl) (fun _ _ _ h => h) (Or.inl ⟨by rfl, ?y14n14⟩) (HS1.out _ rfl) ?r14n14
            case y14n14 => (intro w' hSw; clear hSw; go_simp; try with_reducible rfl)
            simp only [List.getElem_toArray, List.getElem_cons_succ, List.getElem_cons_zero, Act.put, List.setIfInBounds_toArray, List.set_cons_zero, List.set_cons_succ]
            refine wpAnyH_ready (rs := [15]) (by kernel_rfl) (by simp) ?_
            refine AllReadyH.cons rfl (fun K hK => ?_) AllReadyH.nil
            simp only [List.getElem_toArray, List.getElem_cons_succ, List.getElem_cons_zero]
            go_simp
            refine (rextract_told A A2 a b na ca nb cb wq0 ((HRa.out.below HDN0.out).more HDN0.out.size) (HNa.out ()) HCa.out (by omega) ((HRb.out.below HDN0.out).more HDN0.out.size) (HNb.out ()) HCb.out (by omega)).mono ?_
            rintro e' wq1 ⟨v21, rfl, hh, hB⟩
            rw [HM.out ()] at hh
            have HT21 := Lib.hid hh
            have HT20 := Lib.hid ((HR0_20.out).below hB)
            have HT5 := Lib.hid ((HR0_5.out).below hB)
            have HT6 := Lib.hid ((HR0_6.out).below hB)
            have HT7 := Lib.hid ((HR0_7.out).below hB)
            have HT8 := Lib.hid ((HR0_8.out).below hB)
            have HDN1 := Lib.hid (HDN0.out.trans (hB.mono HDN0.out.size))
            clear hh hB
            obtain ⟨A21, n21, c21, rfl, -⟩ := id HT21.out
            refine hK.out _ _ ⟨HT20.out.conv, HT5.out.conv, HT6.out.conv, HT7.out.conv, HT8.out.conv⟩ (fun _ => ?_)
            clear hK K
            try simp only [List.getElem_toArray, List.getElem_cons_succ, List.getElem_cons_zero, Act.put, List.setIfInBounds_toArray, List.set_cons_zero, List.set_cons_succ]
            refine wpAnyH_more (S' := fun w' => (convert 22 9 (.slice A21 n21 c21)).run Tryd.prog w' = .ok (.string (txt M)) w' ∧ (convert 22 9 (.slice A20 n20 c20)).run Tryd.prog w' = .ok (.string (txt M)) w' ∧ (convert 22 9 (.slice A5 n5 c5)).run Tryd.prog w' = .ok (.string (txt M)) w' ∧ (convert 22 9 (.slice A6 n6 c6)).run Tryd.prog w' = .ok (.string (txt M)) w' ∧ (convert 22 9 (.slice A7 n7 c7)).run Tryd.prog w' = .ok (.string (txt X)) w' ∧ (convert 22 9 (.slice A8 n8 c8)).run Tryd.prog w' = .ok (.string (txt L)) w') (fun _ h => h.2) _ _ _ _ ?_
            have HR1_21 := HT21
            have HR1_20 := HT20
            have HR1_5 := HT5
            have HR1_6 := HT6
            have HR1_7 := HT7
            have HR1_8 := HT8
            clear HT21 HT20 HT5 HT6 HT7 HT8
            have HS2 : Hid (∀ w', w' = wq1 → (convert 22 9 (.slice A21 n21 c21)).run Tryd.prog w' = .ok (.string (txt M)) w' ∧ (convert 22 9 (.slice A20 n20 c20)).run Tryd.prog w' = .ok (.string (txt M)) w' ∧ (convert 22 9 (.slice A5 n5 c5)).run Tryd.prog w' = .ok (.string (txt M)) w' ∧ (convert 22 9 (.slice A6 n6 c6)).run Tryd.prog w' = .ok (.string (txt M)) w' ∧ (convert 22 9 (.slice A7 n7 c7)).run Tryd.prog w' = .ok (.string (txt X)) w' ∧ (convert 22 9 (.slice A8 n8 c8)).run Tryd.prog w' = .ok (.string (txt L)) w') := Lib.hid (by rintro w' rfl; exact ⟨HR1_21.out.conv, HR1_20.out.conv, HR1_5.out.conv, HR1_6.out.conv, HR1_7.out.conv, HR1_8.out.conv⟩)
            refine wpAnyH_take (i := 16) (v := ?v16n15) rfl (by kernel_rfl) (by kernel_rfl) (by kernel_rfl) (fun _ _ _ h => h) (Or.inl ⟨by rfl, ?y16n15⟩) (HS2.out _ rfl) ?r16n15
            case y16n15 => (intro w' hSw; have s1 := hSw.1; (try dsimp only at s1); clear hSw; go_simp; try with_reducible rfl)
            simp only [List.getElem_toArray, List.getElem_cons_succ, List.getElem_cons_zero, Act.put, List.setIfInBounds_toArray, List.set_cons_zero, List.set_cons_succ]
            refine wpAnyH_take (i := 17) (v := ?v17n16) rfl (by kernel_rfl) (by kernel_rfl) (by kernel_rfl) (fun _ _ _ h => h) (Or.inl ⟨by rfl, ?y17n16⟩) (HS2.out _ rfl) ?r17n16
            case y17n16 => (intro w' hSw; clear hSw; go_simp; try with_reducible rfl)
            simp only [List.getElem_toArray, List.getElem_cons_succ, List.getElem_cons_zero, Act.put, List.setIfInBounds_toArray, List.set_cons_zero, List.set_cons_succ]
            refine wpAnyH_take (i := 18) (v := ?v18n17) rfl (by kernel_rfl) (by kernel_rfl) (by kernel_rfl) (fun _ _ _ h => h) (Or.inl ⟨by rfl, ?y18n17⟩) (HS2.out _ rfl) ?r18n17
            case y18n17 => (intro w' hSw; clear hSw; go_simp; try with_reducible rfl)
            simp only [List.getElem_toArray, List.getElem_cons_succ, List.getElem_cons_zero, Act.put, List.setIfInBounds_toArray, List.set_cons_zero, List.set_cons_succ]
            refine wpAnyH_take (i := 19) (v := ?v19n18) rfl (by kernel_rfl) (by kernel_rfl) (by kernel_rfl) (fun _ _ _ h => h) (Or.inl ⟨by rfl, ?y19n18⟩) (HS2.out _ rfl) ?r19n18
            case y19n18 => (intro w' hSw; clear hSw; go_simp; try with_reducible rfl)
            simp only [List.getElem_toArray, List.getElem_cons_succ, List.getElem_cons_zero, Act.put, List.setIfInBounds_toArray, List.set_cons_zero, List.set_cons_succ]
            refine wpAnyH_take (i := 20) (v := ?v20n19) rfl (by kernel_rfl) (by kernel_rfl) (by kernel_rfl) (fun _ _ _ h => h) (Or.inl ⟨by rfl, ?y20n19⟩) (HS2.out _ rfl) ?r20n19
            case y20n19 => (intro w' hSw; clear hSw; go_simp; try with_reducible rfl)
            simp only [List.getElem_toArray, List.getElem_cons_succ, List.getElem_cons_zero, Act.put, List.setIfInBounds_toArray, List.set_cons_zero, List.set_cons_succ]
            refine wpAnyH_take (i := 21) (v := ?v21n20) rfl (by kernel_rfl) (by kernel_rfl) (by kernel_rfl) (fun _ _ _ h => h) (Or.inl ⟨by rfl, ?y21n20⟩) (HS2.out _ rfl) ?r21n20
            case y21n20 => (intro w' hSw; have s1 := hSw.2.2.2.2.1; (try dsimp only at s1); clear hSw; go_simp; try with_reducible rfl)
            simp only [List.getElem_toArray, List.getElem_cons_succ, List.getElem_cons_zero, Act.put, List.setIfInBounds_toArray, List.set_cons_zero, List.set_cons_succ]
            refine wpAnyH_take (i := 22) (v := ?v22n21) rfl (by kernel_rfl) (by kernel_rfl) (by kernel_rfl) (fun _ _ _ h => h) (Or.inl ⟨by rfl, ?y22n21⟩) (HS2.out _ rfl) ?r22n21
            case y22n21 => (intro w' hSw; clear hSw; go_simp; try with_reducible rfl)
            simp only [List.getElem_toArray, List.getElem_cons_succ, List.getElem_cons_zero, Act.put, List.setIfInBounds_toArray, List.set_cons_zero, List.set_cons_succ]
            refine wpAnyH_take (i := 23) (v := ?v23n22) rfl (by kernel_rfl) (by kernel_rfl) (by kernel_rfl) (fun _ _ _ h => h) (Or.inl ⟨by rfl, ?y23n22⟩) (HS2.out _ rfl) ?r23n22
            case y23n22 => (intro w' hSw; clear hSw; go_simp; try with_reducible rfl)
            simp only [List.getElem_toArray, List.getElem_cons_succ, List.getElem_cons_zero, Act.put, List.setIfInBounds_toArray, List.set_cons_zero, List.set_cons_succ]
            refine wpAnyH_take (i := 24) (v := ?v24n23) rfl (by kernel_rfl) (by kernel_rfl) (by kernel_rfl) (fun _ _ _ h => h) (Or.inl ⟨by rfl, ?y24n23⟩) (HS2.out _ rfl) ?r24n23
            case y24n23 => (intro w' hSw; clear hSw; go_simp; try with_reducible rfl)
            simp only [List.getElem_toArray, List.getElem_cons_succ, List.getElem_cons_zero, Act.put, List.setIfInBounds_toArray, List.set_cons_zero, List.set_cons_succ]
            refine wpAnyH_ready (rs := [25]) (by kernel_rfl) (by simp) ?_
            refine AllReadyH.cons rfl (fun K hK => ?_) AllReadyH.nil
            simp only [List.getElem_toArray, List.getElem_cons_succ, List.getElem_cons_zero]
            go_simp
            refine (rexpand_told A A2 a b na ca nb cb x wq1 ((HRa.out.below HDN1.out).more HDN1.out.size) (HNa.out ()) HCa.out (by omega) ((HRb.out.below HDN1.out).more HDN1.out.size) (HNb.out ()) HCb.out (by omega)).mono ?_
            rintro e' wq2 ⟨v22, rfl, hh, hB⟩
            rw [HX.out ()] at hh
            have HT22 := Lib.hid hh
            have HT21 := Lib.hid ((HR1_21.out).below hB)
            have HT20 := Lib.hid ((HR1_20.out).below hB)
            have HT5 := Lib.hid ((HR1_5.out).below hB)
            have HT6 := Lib.hid ((HR1_6.out).below hB)
            have HT7 := Lib.hid ((HR1_7.out).below hB)
            have HT8 := Lib.hid ((HR1_8.out).below hB)
            have HDN2 := Lib.hid (HDN1.out.trans (hB.mono HDN1.out.size))
            clear hh hB
            obtain ⟨A22, n22, c22, rfl, -⟩ := id HT22.out
            refine hK.out _ _ ⟨HT21.out.conv, HT20.out.conv, HT5.out.conv, HT6.out.conv, HT7.out.conv, HT8.out.conv⟩ (fun _ => ?_)
            clear hK K
            try simp only [List.getElem_toArray, List.getElem_cons_succ, List.getElem_cons_zero, Act.put, List.setIfInBounds_toArray, List.set_cons_zero, List.set_cons_succ]
            refine wpAnyH_more (S' := fun w' => (convert 22 9 (.slice A22 n22 c22)).run Tryd.prog w' = .ok (.string (txt X)) w' ∧ (convert 22 9 (.slice A21 n21 c21)).run Tryd.prog w' = .ok (.string (txt M)) w' ∧ (convert 22 9 (.slice A20 n20 c20)).run Tryd.prog w' = .ok (.string (txt M)) w' ∧ (convert 22 9 (.slice A5 n5 c5)).run Tryd.prog w' = .ok (.string (txt M)) w' ∧ (convert 22 9 (.slice A6 n6 c6)).run Tryd.prog w' = .ok (.string (txt M)) w' ∧ (convert 22 9 (.slice A7 n7 c7)).run Tryd.prog w' = .ok (.string (txt X)) w' ∧ (convert 22 9 (.slice A8 n8 c8)).run Tryd.prog w' = .ok (.string (txt L)) w') (fun _ h => h.2) _ _ _ _ ?_
            have HR2_22 := HT22
            have HR2_21 := HT21
            have HR2_20 := HT20
            have HR2_5 := HT5
            have HR2_6 := HT6
            have HR2_7 := HT7
            have HR2_8 := HT8
            clear HT22 HT21 HT20 HT5 HT6 HT7 HT8
            have HS3 : Hid (∀ w', w' = wq2 → (convert 22 9 (.slice A22 n22 c22)).run Tryd.prog w' = .ok (.string (txt X)) w' ∧ (convert 22 9 (.slice A21 n21 c21)).run Tryd.prog w' = .ok (.string (txt M)) w' ∧ (convert 22 9 (.slice A20 n20 c20)).run Tryd.prog w' = .ok (.string (txt M)) w' ∧ (convert 22 9 (.slice A5 n5 c5)).run Tryd.prog w' = .ok (.string (txt M)) w' ∧ (convert 22 9 (.slice A6 n6 c6)).run Tryd.prog w' = .ok (.string (txt M)) w' ∧ (convert 22 9 (.slice A7 n7 c7)).run Tryd.prog w' = .ok (.string (txt X)) w' ∧ (convert 22 9 (.slice A8 n8 c8)).run Tryd.prog w' = .ok (.string (txt L)) w') := Lib.hid (by rintro w' rfl; exact ⟨HR2_22.out.conv, HR2_21.out.conv, HR2_20.out.conv, HR2_5.out.conv, HR2_6.out.conv, HR2_7.out.conv, HR2_8.out.conv⟩)
            refine wpAnyH_take (i := 26) (v := ?v26n24) rfl (by kernel_rfl) (by kernel_rfl) (by kernel_rfl) (fun _ _ _ h => h) (Or.inl ⟨by rfl, ?y26n24⟩) (HS3.out _ rfl) ?r26n24
            case y26n24 => (intro w' hSw; have s1 := hSw.1; (try dsimp only at s1); clear hSw; go_simp; try with_reducible rfl)
            simp only [List.getElem_toArray, List.getElem_cons_succ, List.getElem_cons_zero, Act.put, List.setIfInBounds_toArray, List.set_cons_zero, List.set_cons_succ]
            refine wpAnyH_take (i := 27) (v := ?v27n25) rfl (by kernel_rfl) (by kernel_rfl) (by kernel_rfl) (fun _ _ _ h => h) (Or.inl ⟨by rfl, ?y27n25⟩) (HS3.out _ rfl) ?r27n25
            case y27n25 => (intro w' hSw; clear hSw; go_simp; try with_reducible rfl)
            simp only [List.getElem_toArray, List.getElem_cons_succ, List.getElem_cons_zero, Act.put, List.setIfInBounds_toArray, List.set_cons_zero, List.set_cons_succ]
            refine wpAnyH_take (i := 28) (v := ?v28n26) rfl (by kernel_rfl) (by kernel_rfl) (by kernel_rfl) (fun _ _ _ h => h) (Or.inl ⟨by rfl, ?y28n26⟩) (HS3.out _ rfl) ?r28n26
            case y28n26 => (intro w' hSw; clear hSw; go_simp; try with_reducible rfl)
            simp only [List.getElem_toArray, List.getElem_cons_succ, List.getElem_cons_zero, Act.put, List.setIfInBounds_toArray, List.set_cons_zero, List.set_cons_succ]
            refine wpAnyH_take (i := 29) (v := ?v29n27) rfl (by kernel_rfl) (by kernel_rfl) (by kernel_rfl) (fun _ _ _ h => h) (Or.inl ⟨by rfl, ?y29n27⟩) (HS3.out _ rfl) ?r29n27
            case y29n27 => (intro w' hSw; clear hSw; go_simp; try with_reducible rfl)
            simp only [List.getElem_toArray, List.getElem_cons_succ, List.getElem_cons_zero, Act.put, List.setIfInBounds_toArray, List.set_cons_zero, List.set_cons_succ]
            refine wpAnyH_take (i := 30) (v := ?v30n28) rfl (by kernel_rfl) (by kernel_rfl) (by kernel_rfl) (fun _ _ _ h => h) (Or.inl ⟨by rfl, ?y30n28⟩) (HS3.out _ rfl) ?r30n28
            case y30n28 => (intro w' hSw; clear hSw; go_simp; try with_reducible rfl)
            simp only [List.getElem_toArray, List.getElem_cons_succ, List.getElem_cons_zero, Act.put, List.setIfInBounds_toArray, List.set_cons_zero, List.set_cons_succ]
            refine wpAnyH_take (i := 31) (v := ?v31n29) rfl (by kernel_rfl) (by kernel_rfl) (by kernel_rfl) (fun _ _ _ h => h) (Or.inl ⟨by rfl, ?y31n29⟩) (HS3.out _ rfl) ?r31n29
            case y31n29 => (intro w' hSw; have s1 := hSw.2.2.2.2.2.2; (try dsimp only at s1); clear hSw; go_simp; try with_reducible rfl)
            simp only [List.getElem_toArray, List.getElem_cons_succ, List.getElem_cons_zero, Act.put, List.setIfInBounds_toArray, List.set_cons_zero, List.set_cons_succ]
            refine wpAnyH_take (i := 32) (v := ?v32n30) rfl (by kernel_rfl) (by kernel_rfl) (by kernel_rfl) (fun _ _ _ h => h) (Or.inl ⟨by rfl, ?y32n30⟩) (HS3.out _ rfl) ?r32n30
            case y32n30 => (intro w' hSw; clear hSw; go_simp; try with_reducible rfl)
            simp only [List.getElem_toArray, List.getElem_cons_succ, List.getElem_cons_zero, Act.put, List.setIfInBounds_toArray, List.set_cons_zero, List.set_cons_succ]
            refine wpAnyH_take (i := 33) (v := ?v33n31) rfl (by kernel_rfl) (by kernel_rfl) (by kernel_rfl) (fun _ _ _ h => h) (Or.inl ⟨by rfl, ?y33n31⟩) (HS3.out _ rfl) ?r33n31
            case y33n31 => (intro w' hSw; clear hSw; go_simp; try with_reducible rfl)
            simp only [List.getElem_toArray, List.getElem_cons_succ, List.getElem_cons_zero, Act.put, List.setIfInBounds_toArray, List.set_cons_zero, List.set_cons_succ]
            refine wpAnyH_take (i := 34) (v := ?v34n32) rfl (by kernel_rfl) (by kernel_rfl) (by kernel_rfl) (fun _ _ _ h => h) (Or.inl ⟨by rfl, ?y34n32⟩) (HS3.out _ rfl) ?r34n32
            case y34n32 => (intro w' hSw; clear hSw; go_simp; try with_reducible rfl)
            simp only [List.getElem_toArray, List.getElem_cons_succ, List.getElem_cons_zero, Act.put, List.setIfInBounds_toArray, List.set_cons_zero, List.set_cons_succ]
            refine wpAnyH_take (i := 35) (v := ?v35n33) rfl (by kernel_rfl) (by kernel_rfl) (by kernel_rfl) (fun _ _ _ h => h) (Or.inl ⟨by rfl, ?y35n33⟩) (HS3.out _ rfl) ?r35n33
            case y35n33 => (intro w' hSw; clear hSw; go_simp; try with_reducible rfl)
            simp only [List.getElem_toArray, List.getElem_cons_succ, List.getElem_cons_zero, Act.put, List.setIfInBounds_toArray, List.set_cons_zero, List.set_cons_succ]
            refine wpAnyH_ready (rs := [36]) (by kernel_rfl) (by simp) ?_
            refine AllReadyH.cons rfl (fun K hK => ?_) AllReadyH.nil
            simp only [List.getElem_toArray, List.getElem_cons_succ, List.getElem_cons_zero]
            go_simp
            refine (rlabel_told s A A2 a b na ca nb cb x wq2 ((HRa.out.below HDN2.out).more HDN2.out.size) (HNa.out ()) HCa.out (by omega) ((HRb.out.below HDN2.out).more HDN2.out.size) (HNb.out ()) HCb.out).mono ?_
            rintro e' wq3 ⟨v23, rfl, hh, hB⟩
            rw [HL.out ()] at hh
            have HT23 := Lib.hid hh
            have HT22 := Lib.hid ((HR2_22.out).below hB)
            have HT21 := Lib.hid ((HR2_21.out).below hB)
            have HT20 := Lib.hid ((HR2_20.out).below hB)
            have HT5 := Lib.hid ((HR2_5.out).below hB)
            have HT6 := Lib.hid ((HR2_6.out).below hB)
            have HT7 := Lib.hid ((HR2_7.out).below hB)
            have HT8 := Lib.hid ((HR2_8.out).below hB)
            have HDN3 := Lib.hid (HDN2.out.trans (hB.mono HDN2.out.size))
            clear hh hB
            obtain ⟨A23, n23, c23, rfl, -⟩ := id HT23.out
            refine hK.out _ _ ⟨HT22.out.conv, HT21.out.conv, HT20.out.conv, HT5.out.conv, HT6.out.conv, HT7.out.conv, HT8.out.conv⟩ (fun _ => ?_)
            clear hK K
            try simp only [List.getElem_toArray, List.getElem_cons_succ, List.getElem_cons_zero, Act.put, List.setIfInBounds_toArray, List.set_cons_zero, List.set_cons_succ]
            refine wpAnyH_more (S' := fun w' => (convert 22 9 (.slice A23 n23 c23)).run Tryd.prog w' = .ok (.string (txt L)) w' ∧ (convert 22 9 (.slice A22 n22 c22)).run Tryd.prog w' = .ok (.string (txt X)) w' ∧ (convert 22 9 (.slice A21 n21 c21)).run Tryd.prog w' = .ok (.string (txt M)) w' ∧ (convert 22 9 (.slice A20 n20 c20)).run Tryd.prog w' = .ok (.string (txt M)) w' ∧ (convert 22 9 (.slice A5 n5 c5)).run Tryd.prog w' = .ok (.string (txt M)) w' ∧ (convert 22 9 (.slice A6 n6 c6)).run Tryd.prog w' = .ok (.string (txt M)) w' ∧ (convert 22 9 (.slice A7 n7 c7)).run Tryd.prog w' = .ok (.string (txt X)) w' ∧ (convert 22 9 (.slice A8 n8 c8)).run Tryd.prog w' = .ok (.string (txt L)) w') (fun _ h => h.2) _ _ _ _ ?_
            have HR3_23 := HT23
            have HR3_22 := HT22
            have HR3_21 := HT21
            have HR3_20 := HT20
            have HR3_5 := HT5
            have HR3_6 := HT6
            have HR3_7 := HT7
            have HR3_8 := HT8
            clear HT23 HT22 HT21 HT20 HT5 HT6 HT7 HT8
            have HS4 : Hid (∀ w', w' = wq3 → (convert 22 9 (.slice A23 n23 c23)).run Tryd.prog w' = .ok (.string (txt L)) w' ∧ (convert 22 9 (.slice A22 n22 c22)).run Tryd.prog w' = .ok (.string (txt X)) w' ∧ (convert 22 9 (.slice A21 n21 c21)).run Tryd.prog w' = .ok (.string (txt M)) w' ∧ (convert 22 9 (.slice A20 n20 c20)).run Tryd.prog w' = .ok (.string (txt M)) w' ∧ (convert 22 9 (.slice A5 n5 c5)).run Tryd.prog w' = .ok (.string (txt M)) w' ∧ (convert 22 9 (.slice A6 n6 c6)).run Tryd.prog w' = .ok (.string (txt M)) w' ∧ (convert 22 9 (.slice A7 n7 c7)).run Tryd.prog w' = .ok (.string (txt X)) w' ∧ (convert 22 9 (.slice A8 n8 c8)).run Tryd.prog w' = .ok (.string (txt L)) w') := Lib.hid (by rintro w' rfl; exact ⟨HR3_23.out.conv, HR3_22.out.conv, HR3_21.out.conv, HR3_20.out.conv, HR3_5.out.conv, HR3_6.out.conv, HR3_7.out.conv, HR3_8.out.conv⟩)
            refine wpAnyH_take (i := 37) (v := ?v37n34) rfl (by kernel_rfl) (by kernel_rfl) (by kernel_rfl) (fun _ _ _ h => h) (Or.inl ⟨by rfl, ?y37n34⟩) (HS4.out _ rfl) ?r37n34
            case y37n34 => (intro w' hSw; have s1 := hSw.1; (try dsimp only at s1); clear hSw; go_simp; try with_reducible rfl)
            simp only [List.getElem_toArray, List.getElem_cons_succ, List.getElem_cons_zero, Act.put, List.setIfInBounds_toArray, List.set_cons_zero, List.set_cons_succ]
            refine wpAnyH_take (i := 38) (v := ?v38n35) rfl (by kernel_rfl) (by kernel_rfl) (by kernel_rfl) (fun _ _ _ h => h) (Or.inl ⟨by rfl, ?y38n35⟩) (HS4.out _ rfl) ?r38n35
            case y38n35 => (intro w' hSw; clear hSw; go_simp; try with_reducible rfl)
            simp only [List.getElem_toArray, List.getElem_cons_succ, List.getElem_cons_zero, Act.put, List.setIfInBounds_toArray, List.set_cons_zero, List.set_cons_succ]
            refine wpAnyH_take (i := 39) (v := ?v39n36) rfl (by kernel_rfl) (by kernel_rfl) (by kernel_rfl) (fun _ _ _ h => h) (Or.inl ⟨by rfl, ?y39n36⟩) (HS4.out _ rfl) ?r39n36
            case y39n36 => (intro w' hSw; clear hSw; go_simp; try with_reducible rfl)
            simp only [List.getElem_toArray, List.getElem_cons_succ, List.getElem_cons_zero, Act.put, List.setIfInBounds_toArray, List.set_cons_zero, List.set_cons_succ]
            refine wpAnyH_take (i := 40) (v := ?v40n37) rfl (by kernel_rfl) (by kernel_rfl) (by kernel_rfl) (fun _ _ _ h => h) (Or.inl ⟨by rfl, ?y40n37⟩) (HS4.out _ rfl) ?r40n37
            case y40n37 => (intro w' hSw; clear hSw; go_simp; try with_reducible rfl)
            simp only [List.getElem_toArray, List.getElem_cons_succ, List.getElem_cons_zero, Act.put, List.setIfInBounds_toArray, List.set_cons_zero, List.set_cons_succ]
            refine wpAnyH_done (by kernel_rfl) ?_ _
            change Exit.then _ _ Exit.normal _ _
            go_wp2
            go_ret
            exact ⟨rfl, HDN3.out⟩
  · go_wp2_with (at_builtin; refine wpList_append_rd rfl (.tmp 39) (.tmp 40) rfl w1.heap.size w1.heap.size 0 0 na ca w.heap.size [] a A rfl rfl HNIL.out HRa1.out (HNa.out ()) HCa.out (by omega) (by simp) ?_)
    intro gk capk w3 hown hgrow hat
    try simp only [Nat.zero_add, List.nil_append] at hown
    have HO3 := Lib.hid hown; have HB3 := Lib.hid (below_of_only HB1a.out hgrow hs1)
    clear hown hgrow hat HNIL HB1a HRa1
    have hs3 := HB3.out.size
    have HNIL := Lib.hid (nil_own w3 (base := w3.heap.size) (Nat.le_refl _))
    have HB3a := Lib.hid (HB3.out.alloc hs3 (.cells #[] 5))
    have HRb3 := Lib.hid (HRb.out.below HB3a.out)
    go_wp2_with (at_builtin; refine wpList_append_rd rfl (.tmp 42) (.tmp 43) rfl w3.heap.size w3.heap.size 0 0 nb cb w.heap.size [] b A2 rfl rfl HNIL.out HRb3.out (HNb.out ()) HCb.out (by omega) (by simp) ?_)
    intro gt capt w4 hown hgrow hat
    try simp only [Nat.zero_add, List.nil_append] at hown
    have HO4 := Lib.hid hown; have HB4 := Lib.hid (below_of_only HB3a.out hgrow hs3); have HC4 := Lib.hid (below_of_only ((Below.refl w3.heap.size w3).alloc (Nat.le_refl _) (.cells #[] 5)) hgrow (Nat.le_refl _))
    clear hown hgrow hat HNIL HB3a HRb3
    have hs4 := HB4.out.size
    have HO34 := Lib.hid (own_below HO3.out HC4.out (Nat.le_refl _))
    have hgk1 := (HO3.out.lt gk rfl).1
    have hgk2 := (HO3.out.lt gk rfl).2
    have hgt1 := (HO4.out.lt gt rfl).1
    have hgt2 := (HO4.out.lt gt rfl).2
    have hs34 := HC4.out.size
    have hne : gt ≠ gk := by omega
    have hcp := own_cap HO34.out
    have hct := own_cap HO4.out
    unfold maxLen at hcp hct
    have HRk := Lib.hid (rd_of_own HO34.out HRa.out.1 (Nat.le_refl _))
    have HRt := Lib.hid (rd_of_own HO4.out HRb.out.1 (Nat.le_refl _))
    clear HO3 HC4
    go_wp2_with fail
    refine (mac_told (some ⟨gk, 0, none⟩) (some ⟨gt, 0, none⟩) a b na capk nb capt w4 (HT.out.below HB4.out h2) HRk.out (HNa.out ()) hcp.1 hcp.2 (by omega) HRt.out (HNb.out ()) hct.1 hct.2 (by omega)).mono ?_
    rintro e' w5 ⟨v5, rfl, hh, hB⟩
    rw [HM.out ()] at hh
    have HE5 := Lib.hid hB; have HD5 := Lib.hid (HB4.out.trans (hB.mono hs4)); have HH5_5 := Lib.hid hh
    clear hh hB
    obtain ⟨A5, n5, c5, rfl, -⟩ := id HH5_5.out
    go_wp2_with fail
    refine (extract_told (some ⟨gk, 0, none⟩) (some ⟨gt, 0, none⟩) a b na capk nb capt w5 (HT.out.below HD5.out h2) ((HRk.out.below HE5.out).more HE5.out.size) (HNa.out ()) hcp.1 hcp.2 (by omega) ((HRt.out.below HE5.out).more HE5.out.size) (HNb.out ()) hct.1 hct.2 (by omega)).mono ?_
    rintro e' w6 ⟨v6, rfl, hh, hB⟩
    rw [HM.out ()] at hh
    have HE6 := Lib.hid (HE5.out.trans (hB.mono HE5.out.size)); have HD6 := Lib.hid (HD5.out.trans (hB.mono HD5.out.size)); have HH6_6 := Lib.hid (hh.lower (lo' := w4.heap.size) HE5.out.size)
    have HH5_6 := Lib.hid (HH5_5.out.below hB)
    clear hh hB
    obtain ⟨A6, n6, c6, rfl, -⟩ := id HH6_6.out
    go_wp2_with fail
    refine (expand_told (some ⟨gk, 0, none⟩) (some ⟨gt, 0, none⟩) a b na capk nb capt x w6 (HT.out.below HD6.out h2) ((HRk.out.below HE6.out).more HE6.out.size) (HNa.out ()) hcp.1 hcp.2 (by omega) ((HRt.out.below HE6.out).more HE6.out.size) (HNb.out ()) hct.1 hct.2 (by omega)).mono ?_
    rintro e' w7 ⟨v7, rfl, hh, hB⟩
    rw [HX.out ()] at hh
    have HE7 := Lib.hid (HE6.out.trans (hB.mono HE6.out.size)); have HD7 := Lib.hid (HD6.out.trans (hB.mono HD6.out.size)); have HH7_7 := Lib.hid (hh.lower (lo' := w4.heap.size) HE6.out.size)
    have HH5_7 := Lib.hid (HH5_6.out.below hB)
    have HH6_7 := Lib.hid (HH6_6.out.below hB)
    clear hh hB
    obtain ⟨A7, n7, c7, rfl, -⟩ := id HH7_7.out
    go_wp2_with fail
    refine (label_told s (some ⟨gk, 0, none⟩) (some ⟨gt, 0, none⟩) a b na capk nb capt x w7 (HT.out.below HD7.out h2) ((HRk.out.below HE7.out).more HE7.out.size) (HNa.out ()) hcp.1 hcp.2 (by omega) ((HRt.out.below HE7.out).more HE7.out.size) (HNb.out ()) (fun e => by cases e)).mono ?_
    rintro e' w8 ⟨v8, rfl, hh, hB⟩
    rw [HL.out ()] at hh
    have HE8 := Lib.hid (HE7.out.trans (hB.mono HE7.out.size)); have HD8 := Lib.hid (HD7.out.trans (hB.mono HD7.out.size)); have HH8_8 := Lib.hid (hh.lower (lo' := w4.heap.size) HE7.out.size)
    have HH5_8 := Lib.hid (HH5_7.out.below hB)
    have HH6_8 := Lib.hid (HH6_7.out.below hB)
    have HH7_8 := Lib.hid (HH7_7.out.below hB)
    clear hh hB
    obtain ⟨A8, n8, c8, rfl, -⟩ := id HH8_8.out
    have HBK := Lib.hid (bytes_of_own (own_below HO34.out HE8.out (Nat.le_refl _)))
    have HBT := Lib.hid (bytes_of_own (own_below HO4.out HE8.out (Nat.le_refl _)))
    clear HRk HRt HO34 HO4 HE5 HE6 HE7 HE8 HD5 HD6 HD7 HH5_5 HH5_6 HH5_7 HH6_6 HH6_7 HH7_7
    have hlk : gk < w4.heap.size := by omega
    have hlw : w.heap.size ≤ gk := by omega
    have hlw2 : w.heap.size ≤ gt := by omega
    obtain ⟨lo, hlo⟩ : ∃ lo, w4.heap.size = lo := ⟨_, rfl⟩
    rw [hlo] at HH5_8 HH6_8 HH7_8 HH8_8 hlk hgt2
    clear hlo
    go_wp2_with fail
    go_loopw [16] (fun i W => ∃ k : Nat, k ≤ na ∧ i = .int .i64 k ∧ Hid (Bytes W gk na) ∧ Hid (Bytes W gt nb) ∧ Hid (Held lo (.slice A5 n5 c5) M W) ∧ Hid (Held lo (.slice A6 n6 c6) M W) ∧ Hid (Held lo (.slice A7 n7 c7) X W) ∧ Hid (Held lo (.slice A8 n8 c8) L W) ∧ Hid (Below w.heap.size w W)) (fun i _ => na - (intOf i).toNat)
    case atStart => exact ⟨0, by omega, rfl, HBK, HBT, HH5_8, HH6_8, HH7_8, HH8_8, HD8⟩
    case round =>
      obtain ⟨k, hk, rfl, HBK2, HBT2, HP5, HP6, HP7, HP8, HDP⟩ := hrel
      by_cases hkn : k < na
      · obtain ⟨z, c0⟩ := HBK2.out.cell k hkn
        have f0 := HBK2.out.frozen k
        have yk : (k : Int) < (na : Int) := by omega
        go_wp2
        go_roundw
        case rel =>
          have hset := fun u => only_set (World.grownBy.refl wr (some gk)) (p := ⟨gk, k, none⟩) (.inl rfl) u
          exact ⟨k + 1, by omega, by go_num, Lib.hid (HBK2.out.set k _), Lib.hid (HBT2.out.grown (hset _) hne), Lib.hid (HP5.out.grown (hset _) hlk), Lib.hid (HP6.out.grown (hset _) hlk), Lib.hid (HP7.out.grown (hset _) hlk), Lib.hid (HP8.out.grown (hset _) hlk), Lib.hid (HDP.out.setCell hlw _)⟩
        case measure => simp [intOf]; omega
      · have yk : ¬ (k : Int) < (na : Int) := by omega
        go_wp2_with fail
        go_loopw [17] (fun i W => ∃ k : Nat, k ≤ nb ∧ i = .int .i64 k ∧ Hid (Bytes W gt nb) ∧ Hid (Held lo (.slice A5 n5 c5) M W) ∧ Hid (Held lo (.slice A6 n6 c6) M W) ∧ Hid (Held lo (.slice A7 n7 c7) X W) ∧ Hid (Held lo (.slice A8 n8 c8) L W) ∧ Hid (Below w.heap.size w W)) (fun i _ => nb - (intOf i).toNat)
        case atStart => exact ⟨0, by omega, rfl, HBT2, HP5, HP6, HP7, HP8, HDP⟩
        case round =>
          clear HBT2 HP5 HP6 HP7 HP8 HDP
          obtain ⟨k2, hk2, rfl, HBT2, HP5, HP6, HP7, HP8, HDP⟩ := hrel
          by_cases hkn2 : k2 < nb
          · obtain ⟨z, c0⟩ := HBT2.out.cell k2 hkn2
            have f0 := HBT2.out.frozen k2
            have yk2 : (k2 : Int) < (nb : Int) := by omega
            go_wp2
            go_roundw
            case rel =>
              have hset := fun u => only_set (World.grownBy.refl wr (some gt)) (p := ⟨gt, k2, none⟩) (.inl rfl) u
              exact ⟨k2 + 1, by omega, by go_num, Lib.hid (HBT2.out.set k2 _), Lib.hid (HP5.out.grown (hset _) hgt2), Lib.hid (HP6.out.grown (hset _) hgt2), Lib.hid (HP7.out.grown (hset _) hgt2), Lib.hid (HP8.out.grown (hset _) hgt2), Lib.hid (HDP.out.setCell hlw2 _)⟩
            case measure => simp [intOf]; omega
          · have yk2 : ¬ (k2 : Int) < (nb : Int) := by omega
            go_wp2_with fail
            refine region_calm ?_
            refine wp_region_any (by kernel_rfl) ?_
            change wpAny _ _ _ _ _ _ _ (World.drew _)
            replace HP5 := Lib.hid HP5.out.drew; replace HP6 := Lib.hid HP6.out.drew; replace HP7 := Lib.hid HP7.out.drew; replace HP8 := Lib.hid HP8.out.drew; replace HDP := Lib.hid HDP.out.drew
            generalize World.drew _ = wd at *
            have hsd := HDP.out.size
            have HS0 : Hid (∀ w', w' = wd → (convert 22 9 (.slice A5 n5 c5)).run Tryd.prog w' = .ok (.string (txt M)) w' ∧ (convert 22 9 (.slice A6 n6 c6)).run Tryd.prog w' = .ok (.string (txt M)) w' ∧ (convert 22 9 (.slice A7 n7 c7)).run Tryd.prog w' = .ok (.string (txt X)) w' ∧ (convert 22 9 (.slice A8 n8 c8)).run Tryd.prog w' = .ok (.string (txt L)) w') := Lib.hid (by rintro w' rfl; exact ⟨HP5.out.conv, HP6.out.conv, HP7.out.conv, HP8.out.conv⟩)
            refine wpAny_of_held (S := fun w' => (convert 22 9 (.slice A5 n5 c5)).run Tryd.prog w' = .ok (.string (txt M)) w' ∧ (convert 22 9 (.slice A6 n6 c6)).run Tryd.prog w' = .ok (.string (txt M)) w' ∧ (convert 22 9 (.slice A7 n7 c7)).run Tryd.prog w' = .ok (.string (txt X)) w' ∧ (convert 22 9 (.slice A8 n8 c8)).run Tryd.prog w' = .ok (.string (txt L)) w') _ _ _ _ ?_
            refine wpAnyH_take (i := 0) (v := ?v0n38) rfl (by kernel_rfl) (by kernel_rfl) (by kernel_rfl) (fun _ _ _ h => h) (Or.inl ⟨by rfl, ?y0n38⟩) (HS0.out _ rfl) ?r0n38
            case y0n38 => (intro w' hSw; clear hSw; go_simp; try with_reducible rfl)
            simp only [List.getElem_toArray, List.getElem_cons_succ, List.getElem_cons_zero, Act.put, List.setIfInBounds_toArray, List.set_cons_zero, List.set_cons_succ]
            refine wpAnyH_take (i := 1) (v := ?v1n39) rfl (by kernel_rfl) (by kernel_rfl) (by kernel_rfl) (fun _ _ _ h => h) (Or.inl ⟨by rfl, ?y1n39⟩) (HS0.out _ rfl) ?r1n39
            case y1n39 => (intro w' hSw; clear hSw; go_simp; try with_reducible rfl)
            simp only [List.getElem_toArray, List.getElem_cons_succ, List.getElem_cons_zero, Act.put, List.setIfInBounds_toArray, List.set_cons_zero, List.set_cons_succ]
            refine wpAnyH_take (i := 2) (v := ?v2n40) rfl (by kernel_rfl) (by kernel_rfl) (by kernel_rfl) (fun _ _ _ h => h) (Or.inl ⟨by rfl, ?y2n40⟩) (HS0.out _ rfl) ?r2n40
            case y2n40 => (intro w' hSw; clear hSw; go_simp; try with_reducible rfl)
            simp only [List.getElem_toArray, List.getElem_cons_succ, List.getElem_cons_zero, Act.put, List.setIfInBounds_toArray, List.set_cons_zero, List.set_cons_succ]
            refine wpAnyH_take (i := 3) (v := ?v3n41) rfl (by kernel_rfl) (by kernel_rfl) (by kernel_rfl) (fun _ _ _ h => h) (Or.inl ⟨by rfl, ?y3n41⟩) (HS0.out _ rfl) ?r3n41
            case y3n41 => (intro w' hSw; have s1 := hSw.1; (try dsimp only at s1); clear hSw; go_simp; try with_reducible rfl)
            simp only [List.getElem_toArray, List.getElem_cons_succ, List.getElem_cons_zero, Act.put, List.setIfInBounds_toArray, List.set_cons_zero, List.set_cons_succ]
            refine wpAnyH_take (i := 4) (v := ?v4n42) rfl (by kernel_rfl) (by kernel_rfl) (by kernel_rfl) (fun _ _ _ h => h) (Or.inl ⟨by rfl, ?y4n42⟩) (HS0.out _ rfl) ?r4n42
            case y4n42 => (intro w' hSw; clear hSw; go_simp; try with_reducible rfl)
            simp only [List.getElem_toArray, List.getElem_cons_succ, List.getElem_cons_zero, Act.put, List.setIfInBounds_toArray, List.set_cons_zero, List.set_cons_succ]
            refine wpAnyH_take (i := 5) (v := ?v5n43) rfl (by kernel_rfl) (by kernel_rfl) (by kernel_rfl) (fun _ _ _ h => h) (Or.inl ⟨by rfl, ?y5n43⟩) (HS0.out _ rfl) ?r5n43
            case y5n43 => (intro w' hSw; clear hSw; go_simp; try with_reducible rfl)
            simp only [List.getElem_toArray, List.getElem_cons_succ, List.getElem_cons_zero, Act.put, List.setIfInBounds_toArray, List.set_cons_zero, List.set_cons_succ]
            refine wpAnyH_ready (rs := [6]) (by kernel_rfl) (by simp) ?_
            refine AllReadyH.cons rfl (fun K hK => ?_) AllReadyH.nil
            simp only [List.getElem_toArray, List.getElem_cons_succ, List.getElem_cons_zero]
            go_simp
            refine (rmac_told A A2 a b na ca nb cb wd ((HRa.out.below HDP.out).more HDP.out.size) (HNa.out ()) HCa.out (by omega) ((HRb.out.below HDP.out).more HDP.out.size) (HNb.out ()) HCb.out (by omega)).mono ?_
            rintro e' wq0 ⟨v20, rfl, hh, hB⟩
            rw [HM.out ()] at hh
            have HT20 := Lib.hid hh
            have HT5 := Lib.hid ((HP5.out).below hB)
            have HT6 := Lib.hid ((HP6.out).below hB)
            have HT7 := Lib.hid ((HP7.out).below hB)
            have HT8 := Lib.hid ((HP8.out).below hB)
            have HDN0 := Lib.hid (HDP.out.trans (hB.mono HDP.out.size))
            clear hh hB
            obtain ⟨A20, n20, c20, rfl, -⟩ := id HT20.out
            refine hK.out _ _ ⟨HT5.out.conv, HT6.out.conv, HT7.out.conv, HT8.out.conv⟩ (fun _ => ?_)
            clear hK K
            try simp only [List.getElem_toArray, List.getElem_cons_succ, List.getElem_cons_zero, Act.put, List.setIfInBounds_toArray, List.set_cons_zero, List.set_cons_succ]
            refine wpAnyH_more (S' := fun w' => (convert 22 9 (.slice A20 n20 c20)).run Tryd.prog w' = .ok (.string (txt M)) w' ∧ (convert 22 9 (.slice A5 n5 c5)).run Tryd.prog w' = .ok (.string (txt M)) w' ∧ (convert 22 9 (.slice A6 n6 c6)).run Tryd.prog w' = .ok (.string (txt M)) w' ∧ (convert 22 9 (.slice A7 n7 c7)).run Tryd.prog w' = .ok (.string (txt X)) w' ∧ (convert 22 9 (.slice A8 n8 c8)).run Tryd.prog w' = .ok (.string (txt L)) w') (fun _ h => h.2) _ _ _ _ ?_
            have HR0_20 := HT20
            have HR0_5 := HT5
            have HR0_6 := HT6
            have HR0_7 := HT7
            have HR0_8 := HT8
            clear HT20 HT5 HT6 HT7 HT8
            have HS1 : Hid (∀ w', w' = wq0 → (convert 22 9 (.slice A20 n20 c20)).run Tryd.prog w' = .ok (.string (txt M)) w' ∧ (convert 22 9 (.slice A5 n5 c5)).run Tryd.prog w' = .ok (.string (txt M)) w' ∧ (convert 22 9 (.slice A6 n6 c6)).run Tryd.prog w' = .ok (.string (txt M)) w' ∧ (convert 22 9 (.slice A7 n7 c7)).run Tryd.prog w' = .ok (.string (txt X)) w' ∧ (convert 22 9 (.slice A8 n8 c8)).run Tryd.prog w' = .ok (.string (txt L)) w') := Lib.hid (by rintro w' rfl; exact ⟨HR0_20.out.conv, HR0_5.out.conv, HR0_6.out.conv, HR0_7.out.conv, HR0_8.out.conv⟩)
            refine wpAnyH_take (i := 7) (v := ?v7n44) rfl (by kernel_rfl) (by kernel_rfl) (by kernel_rfl) (fun _ _ _ h => h) (Or.inl ⟨by rfl, ?y7n44⟩) (HS1.out _ rfl) ?r7n44
            case y7n44 => (intro w' hSw; have s1 := hSw.1; (try dsimp only at s1); clear hSw; go_simp; try with_reducible rfl)
            simp only [List.getElem_toArray, List.getElem_cons_succ, List.getElem_cons_zero, Act.put, List.setIfInBounds_toArray, List.set_cons_zero, List.set_cons_succ]
            refine wpAnyH_take (i := 8) (v := ?v8n45) rfl (by kernel_rfl) (by kernel_rfl) (by kernel_rfl) (fun _ _ _ h => h) (Or.inl ⟨by rfl, ?y8n45⟩) (HS1.out _ rfl) ?r8n45
            case y8n45 => (intro w' hSw; clear hSw; go_simp; try with_reducible rfl)
            simp only [List.getElem_toArray, List.getElem_cons_succ, List.getElem_cons_zero, Act.put, List.setIfInBounds_toArray, List.set_cons_zero, List.set_cons_succ]
            refine wpAnyH_take (i := 9) (v := ?v9n46) rfl (by kernel_rfl) (by kernel_rfl) (by kernel_rfl) (fun _ _ _ h => h) (Or.inl ⟨by rfl, ?y9n46⟩) (HS1.out _ rfl) ?r9n46
            case y9n46 => (intro w' hSw; clear hSw; go_simp; try with_reducible rfl)
            simp only [List.getElem_toArray, List.getElem_cons_succ, List.getElem_cons_zero, Act.put, List.setIfInBounds_toArray, List.set_cons_zero, List.set_cons_succ]
            refine wpAnyH_take (i := 10) (v := ?v10n47) rfl (by kernel_rfl) (by kernel_rfl) (by kernel_rfl) (fun _ _ _ h => h) (Or.inl ⟨by rfl, ?y10n47⟩) (HS1.out _ rfl) ?r10n47
            case y10n47 => (intro w' hSw; clear hSw; go_simp; try with_reducible rfl)
            simp only [List.getElem_toArray, List.getElem_cons_succ, List.getElem_cons_zero, Act.put, List.setIfInBounds_toArray, List.set_cons_zero, List.set_cons_succ]
            refine wpAnyH_take (i := 11) (v := ?v11n48) rfl (by kernel_rfl) (by kernel_rfl) (by kernel_rfl) (fun _ _ _ h => h) (Or.inl ⟨by rfl, ?y11n48⟩) (HS1.out _ rfl) ?r11n48
            case y11n48 => (intro w' hSw; clear hSw; go_simp; try with_reducible rfl)
            simp only [List.getElem_toArray, List.getElem_cons_succ, List.getElem_cons_zero, Act.put, List.setIfInBounds_toArray, List.set_cons_zero, List.set_cons_succ]
            refine wpAnyH_take (i := 12) (v := ?v12n49) rfl (by kernel_rfl) (by kernel_rfl) (by kernel_rfl) (fun _ _ _ h => h) (Or.inl ⟨by rfl, ?y12n49⟩) (HS1.out _ rfl) ?r12n49
            case y12n49 => (intro w' hSw; have s1 := hSw.2.2.1; (try dsimp only at s1); clear hSw; go_simp; try with_reducible rfl)
            simp only [List.getElem_toArray, List.getElem_cons_succ, List.getElem_cons_zero, Act.put, List.setIfInBounds_toArray, List.set_cons_zero, List.set_cons_succ]
            refine wpAnyH_take (i := 13) (v := ?v13n50) rfl (by kernel_rfl) (by kernel_rfl) (by kernel_rfl) (fun _ _ _ h => h) (Or.inl ⟨by rfl, ?y13n50⟩) (HS1.out _ rfl) ?r13n50
            case y13n50 => (intro w' hSw; clear hSw; go_simp; try with_reducible rfl)
            simp only [List.getElem_toArray, List.getElem_cons_succ, List.getElem_cons_zero, Act.put, List.setIfInBounds_toArray, List.set_cons_zero, List.set_cons_succ]
            refine wpAnyH_take (i := 14) (v := ?v14n51) rfl (by kernel_rfl) (by kernel_rfl) (by kernel_rfl) (fun _ _ _ h => h) (Or.inl ⟨by rfl, ?y14n51⟩) (HS1.out _ rfl) ?r14n51
            case y14n51 => (intro w' hSw; clear hSw; go_simp; try with_reducible rfl)
            simp only [List.getElem_toArray, List.getElem_cons_succ, List.getElem_cons_zero, Act.put, List.setIfInBounds_toArray, List.set_cons_zero, List.set_cons_succ]
            refine wpAnyH_ready (rs := [15]) (by kernel_rfl) (by simp) ?_
            refine AllReadyH.cons rfl (fun K hK => ?_) AllReadyH.nil
            simp only [List.getElem_toArray, List.getElem_cons_succ, List.getElem_cons_zero]
            go_simp
            refine (rextract_told A A2 a b na ca nb cb wq0 ((HRa.out.below HDN0.out).more HDN0.out.size) (HNa.out ()) HCa.out (by omega) ((HRb.out.below HDN0.out).more HDN0.out.size) (HNb.out ()) HCb.out (by omega)).mono ?_
            rintro e' wq1 ⟨v21, rfl, hh, hB⟩
            rw [HM.out ()] at hh
            have HT21 := Lib.hid hh
            have HT20 := Lib.hid ((HR0_20.out).below hB)
            have HT5 := Lib.hid ((HR0_5.out).below hB)
            have HT6 := Lib.hid ((HR0_6.out).below hB)
            have HT7 := Lib.hid ((HR0_7.out).below hB)
            have HT8 := Lib.hid ((HR0_8.out).below hB)
            have HDN1 := Lib.hid (HDN0.out.trans (hB.mono HDN0.out.size))
            clear hh hB
            obtain ⟨A21, n21, c21, rfl, -⟩ := id HT21.out
            refine hK.out _ _ ⟨HT20.out.conv, HT5.out.conv, HT6.out.conv, HT7.out.conv, HT8.out.conv⟩ (fun _ => ?_)
            clear hK K
            try simp only [List.getElem_toArray, List.getElem_cons_succ, List.getElem_cons_zero, Act.put, List.setIfInBounds_toArray, List.set_cons_zero, List.set_cons_succ]
            refine wpAnyH_more (S' := fun w' => (convert 22 9 (.slice A21 n21 c21)).run Tryd.prog w' = .ok (.string (txt M)) w' ∧ (convert 22 9 (.slice A20 n20 c20)).run Tryd.prog w' = .ok (.string (txt M)) w' ∧ (convert 22 9 (.slice A5 n5 c5)).run Tryd.prog w' = .ok (.string (txt M)) w' ∧ (convert 22 9 (.slice A6 n6 c6)).run Tryd.prog w' = .ok (.string (txt M)) w' ∧ (convert 22 9 (.slice A7 n7 c7)).run Tryd.prog w' = .ok (.string (txt X)) w' ∧ (convert 22 9 (.slice A8 n8 c8)).run Tryd.prog w' = .ok (.string (txt L)) w') (fun _ h => h.2) _ _ _ _ ?_
            have HR1_21 := HT21
            have HR1_20 := HT20
            have HR1_5 := HT5
            have HR1_6 := HT6
            have HR1_7 := HT7
            have HR1_8 := HT8
            clear HT21 HT20 HT5 HT6 HT7 HT8
            have HS2 : Hid (∀ w', w' = wq1 → (convert 22 9 (.slice A21 n21 c21)).run Tryd.prog w' = .ok (.string (txt M)) w' ∧ (convert 22 9 (.slice A20 n20 c20)).run Tryd.prog w' = .ok (.string (txt M)) w' ∧ (convert 22 9 (.slice A5 n5 c5)).run Tryd.prog w' = .ok (.string (txt M)) w' ∧ (convert 22 9 (.slice A6 n6 c6)).run Tryd.prog w' = .ok (.string (txt M)) w' ∧ (convert 22 9 (.slice A7 n7 c7)).run Tryd.prog w' = .ok (.string (txt X)) w' ∧ (convert 22 9 (.slice A8 n8 c8)).run Tryd.prog w' = .ok (.string (txt L)) w') := Lib.hid (by rintro w' rfl; exact ⟨HR1_21.out.conv, HR1_20.out.conv, HR1_5.out.conv, HR1_6.out.conv, HR1_7.out.conv, HR1_8.out.conv⟩)
            refine wpAnyH_take (i := 16) (v := ?v16n52) rfl (by kernel_rfl) (by kernel_rfl) (by kernel_rfl) (fun _ _ _ h => h) (Or.inl ⟨by rfl, ?y16n52⟩) (HS2.out _ rfl) ?r16n52
            case y16n52 => (intro w' hSw; have s1 := hSw.1; (try dsimp only at s1); clear hSw; go_simp; try with_reducible rfl)
            simp only [List.getElem_toArray, List.getElem_cons_succ, List.getElem_cons_zero, Act.put, List.setIfInBounds_toArray, List.set_cons_zero, List.set_cons_succ]
            refine wpAnyH_take (i := 17) (v := ?v17n53) rfl (by kernel_rfl) (by kernel_rfl) (by kernel_rfl) (fun _ _ _ h => h) (Or.inl ⟨by rfl, ?y17n53⟩) (HS2.out _ rfl) ?r17n53
            case y17n53 => (intro w' hSw; clear hSw; go_simp; try with_reducible rfl)
            simp only [List.getElem_toArray, List.getElem_cons_succ, List.getElem_cons_zero, Act.put, List.setIfInBounds_toArray, List.set_cons_zero, List.set_cons_succ]
            refine wpAnyH_take (i := 18) (v := ?v18n54) rfl (by kernel_rfl) (by kernel_rfl) (by kernel_rfl) (fun _ _ _ h => h) (Or.inl ⟨by rfl, ?y18n54⟩) (HS2.out _ rfl) ?r18n54
            case y18n54 => (intro w' hSw; clear hSw; go_simp; try with_reducible rfl)
            simp only [List.getElem_toArray, List.getElem_cons_succ, List.getElem_cons_zero, Act.put, List.setIfInBounds_toArray, List.set_cons_zero, List.set_cons_succ]
            refine wpAnyH_take (i := 19) (v := ?v19n55) rfl (by kernel_rfl) (by kernel_rfl) (by kernel_rfl) (fun _ _ _ h => h) (Or.inl ⟨by rfl, ?y19n55⟩) (HS2.out _ rfl) ?r19n55
            case y19n55 => (intro w' hSw; clear hSw; go_simp; try with_reducible rfl)
            simp only [List.getElem_toArray, List.getElem_cons_succ, List.getElem_cons_zero, Act.put, List.setIfInBounds_toArray, List.set_cons_zero, List.set_cons_succ]
            refine wpAnyH_take (i := 20) (v := ?v20n56) rfl (by kernel_rfl) (by kernel_rfl) (by kernel_rfl) (fun _ _ _ h => h) (Or.inl ⟨by rfl, ?y20n56⟩) (HS2.out _ rfl) ?r20n56
            case y20n56 => (intro w' hSw; clear hSw; go_simp; try with_reducible rfl)
            simp only [List.getElem_toArray, List.getElem_cons_succ, List.getElem_cons_zero, Act.put, List.setIfInBounds_toArray, List.set_cons_zero, List.set_cons_succ]
            refine wpAnyH_take (i := 21) (v := ?v21n57) rfl (by kernel_rfl) (by kernel_rfl) (by kernel_rfl) (fun _ _ _ h => h) (Or.inl ⟨by rfl, ?y21n57⟩) (HS2.out _ rfl) ?r21n57
            case y21n57 => (intro w' hSw; have s1 := hSw.2.2.2.2.1; (try dsimp only at s1); clear hSw; go_simp; try with_reducible rfl)
            simp only [List.getElem_toArray, List.getElem_cons_succ, List.getElem_cons_zero, Act.put, List.setIfInBounds_toArray, List.set_cons_zero, List.set_cons_succ]
            refine wpAnyH_take (i := 22) (v := ?v22n58) rfl (by kernel_rfl) (by kernel_rfl) (by kernel_rfl) (fun _ _ _ h => h) (Or.inl ⟨by rfl, ?y22n58⟩) (HS2.out _ rfl) ?r22n58
            case y22n58 => (intro w' hSw; clear hSw; go_simp; try with_reducible rfl)
            simp only [List.getElem_toArray, List.getElem_cons_succ, List.getElem_cons_zero, Act.put, List.setIfInBounds_toArray, List.set_cons_zero, List.set_cons_succ]
            refine wpAnyH_take (i := 23) (v := ?v23n59) rfl (by kernel_rfl) (by kernel_rfl) (by kernel_rfl) (fun _ _ _ h => h) (Or.inl ⟨by rfl, ?y23n59⟩) (HS2.out _ rfl) ?r23n59
            case y23n59 => (intro w' hSw; clear hSw; go_simp; try with_reducible rfl)
            simp only [List.getElem_toArray, List.getElem_cons_succ, List.getElem_cons_zero, Act.put, List.setIfInBounds_toArray, List.set_cons_zero, List.set_cons_succ]
            refine wpAnyH_take (i := 24) (v := ?v24n60) rfl (by kernel_rfl) (by kernel_rfl) (by kernel_rfl) (fun _ _ _ h => h) (Or.inl ⟨by rfl, ?y24n60⟩) (HS2.out _ rfl) ?r24n60
            case y24n60 => (intro w' hSw; clear hSw; go_simp; try with_reducible rfl)
            simp only [List.getElem_toArray, List.getElem_cons_succ, List.getElem_cons_zero, Act.put, List.setIfInBounds_toArray, List.set_cons_zero, List.set_cons_succ]
            refine wpAnyH_ready (rs := [25]) (by kernel_rfl) (by simp) ?_
            refine AllReadyH.cons rfl (fun K hK => ?_) AllReadyH.nil
            simp only [List.getElem_toArray, List.getElem_cons_succ, List.getElem_cons_zero]
            go_simp
            refine (rexpand_told A A2 a b na ca nb cb x wq1 ((HRa.out.below HDN1.out).more HDN1.out.size) (HNa.out ()) HCa.out (by omega) ((HRb.out.below HDN1.out).more HDN1.out.size) (HNb.out ()) HCb.out (by omega)).mono ?_
            rintro e' wq2 ⟨v22, rfl, hh, hB⟩
            rw [HX.out ()] at hh
            have HT22 := Lib.hid hh
            have HT21 := Lib.hid ((HR1_21.out).below hB)
            have HT20 := Lib.hid ((HR1_20.out).below hB)
            have HT5 := Lib.hid ((HR1_5.out).below hB)
            have HT6 := Lib.hid ((HR1_6.out).below hB)
            have HT7 := Lib.hid ((HR1_7.out).below hB)
            have HT8 := Lib.hid ((HR1_8.out).below hB)
            have HDN2 := Lib.hid (HDN1.out.trans (hB.mono HDN1.out.size))
            clear hh hB
            obtain ⟨A22, n22, c22, rfl, -⟩ := id HT22.out
            refine hK.out _ _ ⟨HT21.out.conv, HT20.out.conv, HT5.out.conv, HT6.out.conv, HT7.out.conv, HT8.out.conv⟩ (fun _ => ?_)
            clear hK K
            try simp only [List.getElem_toArray, List.getElem_cons_succ, List.getElem_cons_zero, Act.put, List.setIfInBounds_toArray, List.set_cons_zero, List.set_cons_succ]
            refine wpAnyH_more (S' := fun w' => (convert 22 9 (.slice A22 n22 c22)).run Tryd.prog w' = .ok (.string (txt X)) w' ∧ (convert 22 9 (.slice A21 n21 c21)).run Tryd.prog w' = .ok (.string (txt M)) w' ∧ (convert 22 9 (.slice A20 n20 c20)).run Tryd.prog w' = .ok (.string (txt M)) w' ∧ (convert 22 9 (.slice A5 n5 c5)).run Tryd.prog w' = .ok (.string (txt M)) w' ∧ (convert 22 9 (.slice A6 n6 c6)).run Tryd.prog w' = .ok (.string (txt M)) w' ∧ (convert 22 9 (.slice A7 n7 c7)).run Tryd.prog w' = .ok (.string (txt X)) w' ∧ (convert 22 9 (.slice A8 n8 c8)).run Tryd.prog w' = .ok (.string (txt L)) w') (fun _ h => h.2) _ _ _ _ ?_
            have HR2_22 := HT22
            have HR2_21 := HT21
            have HR2_20 := HT20
            have HR2_5 := HT5
            have HR2_6 := HT6
            have HR2_7 := HT7
            have HR2_8 := HT8
            clear HT22 HT21 HT20 HT5 HT6 HT7 HT8
            have HS3 : Hid (∀ w', w' = wq2 → (convert 22 9 (.slice A22 n22 c22)).run Tryd.prog w' = .ok (.string (txt X)) w' ∧ (convert 22 9 (.slice A21 n21 c21)).run Tryd.prog w' = .ok (.string (txt M)) w' ∧ (convert 22 9 (.slice A20 n20 c20)).run Tryd.prog w' = .ok (.string (txt M)) w' ∧ (convert 22 9 (.slice A5 n5 c5)).run Tryd.prog w' = .ok (.string (txt M)) w' ∧ (convert 22 9 (.slice A6 n6 c6)).run Tryd.prog w' = .ok (.string (txt M)) w' ∧ (convert 22 9 (.slice A7 n7 c7)).run Tryd.prog w' = .ok (.string (txt X)) w' ∧ (convert 22 9 (.slice A8 n8 c8)).run Tryd.prog w' = .ok (.string (txt L)) w') := Lib.hid (by rintro w' rfl; exact ⟨HR2_22.out.conv, HR2_21.out.conv, HR2_20.out.conv, HR2_5.out.conv, HR2_6.out.conv, HR2_7.out.conv, HR2_8.out.conv⟩)
            refine wpAnyH_take (i := 26) (v := ?v26n61) rfl (by kernel_rfl) (by kernel_rfl) (by kernel_rfl) (fun _ _ _ h => h) (Or.inl ⟨by rfl, ?y26n61⟩) (HS3.out _ rfl) ?r26n61
            case y26n61 => (intro w' hSw; have s1 := hSw.1; (try dsimp only at s1); clear hSw; go_simp; try with_reducible rfl)
            simp only [List.getElem_toArray, List.getElem_cons_succ, List.getElem_cons_zero, Act.put, List.setIfInBounds_toArray, List.set_cons_zero, List.set_cons_succ]
            refine wpAnyH_take (i := 27) (v := ?v27n62) rfl (by kernel_rfl) (by kernel_rfl) (by kernel_rfl) (fun _ _ _ h => h) (Or.inl ⟨by rfl, ?y27n62⟩) (HS3.out _ rfl) ?r27n62
            case y27n62 => (intro w' hSw; clear hSw; go_simp; try with_reducible rfl)
            simp only [List.getElem_toArray, List.getElem_cons_succ, List.getElem_cons_zero, Act.put, List.setIfInBounds_toArray, List.set_cons_zero, List.set_cons_succ]
            refine wpAnyH_take (i := 28) (v := ?v28n63) rfl (by kernel_rfl) (by kernel_rfl) (by kernel_rfl) (fun _ _ _ h => h) (Or.inl ⟨by rfl, ?y28n63⟩) (HS3.out _ rfl) ?r28n63
            case y28n63 => (intro w' hSw; clear hSw; go_simp; try with_reducible rfl)
            simp only [List.getElem_toArray, List.getElem_cons_succ, List.getElem_cons_zero, Act.put, List.setIfInBounds_toArray, List.set_cons_zero, List.set_cons_succ]
            refine wpAnyH_take (i := 29) (v := ?v29n64) rfl (by kernel_rfl) (by kernel_rfl) (by kernel_rfl) (fun _ _ _ h => h) (Or.inl ⟨by rfl, ?y29n64⟩) (HS3.out _ rfl) ?r29n64
            case y29n64 => (intro w' hSw; clear hSw; go_simp; try with_reducible rfl)
            simp only [List.getElem_toArray, List.getElem_cons_succ, List.getElem_cons_zero, Act.put, List.setIfInBounds_toArray, List.set_cons_zero, List.set_cons_succ]
            refine wpAnyH_take (i := 30) (v := ?v30n65) rfl (by kernel_rfl) (by kernel_rfl) (by kernel_rfl) (fun _ _ _ h => h) (Or.inl ⟨by rfl, ?y30n65⟩) (HS3.out _ rfl) ?r30n65
            case y30n65 => (intro w' hSw; clear hSw; go_simp; try with_reducible rfl)
            simp only [List.getElem_toArray, List.getElem_cons_succ, List.getElem_cons_zero, Act.put, List.setIfInBounds_toArray, List.set_cons_zero, List.set_cons_succ]
            refine wpAnyH_take (i := 31) (v := ?v31n66) rfl (by kernel_rfl) (by kernel_rfl) (by kernel_rfl) (fun _ _ _ h => h) (Or.inl ⟨by rfl, ?y31n66⟩) (HS3.out _ rfl) ?r31n66
            case y31n66 => (intro w' hSw; have s1 := hSw.2.2.2.2.2.2; (try dsimp only at s1); clear hSw; go_simp; try with_reducible rfl)
            simp only [List.getElem_toArray, List.getElem_cons_succ, List.getElem_cons_zero, Act.put, List.setIfInBounds_toArray, List.set_cons_zero, List.set_cons_succ]
            refine wpAnyH_take (i := 32) (v := ?v32n67) rfl (by kernel_rfl) (by kernel_rfl) (by kernel_rfl) (fun _ _ _ h => h) (Or.inl ⟨by rfl, ?y32n67⟩) (HS3.out _ rfl) ?r32n67
            case y32n67 => (intro w' hSw; clear hSw; go_simp; try with_reducible rfl)
            simp only [List.getElem_toArray, List.getElem_cons_succ, List.getElem_cons_zero, Act.put, List.setIfInBounds_toArray, List.set_cons_zero, List.set_cons_succ]
            refine wpAnyH_take (i := 33) (v := ?v33n68) rfl (by kernel_rfl) (by kernel_rfl) (by kernel_rfl) (fun _ _ _ h => h) (Or.inl ⟨by rfl, ?y33n68⟩) (HS3.out _ rfl) ?r33n68
            case y33n68 => (intro w' hSw; clear hSw; go_simp; try with_reducible rfl)
            simp only [List.getElem_toArray, List.getElem_cons_succ, List.getElem_cons_zero, Act.put, List.setIfInBounds_toArray, List.set_cons_zero, List.set_cons_succ]
            refine wpAnyH_take (i := 34) (v := ?v34n69) rfl (by kernel_rfl) (by kernel_rfl) (by kernel_rfl) (fun _ _ _ h => h) (Or.inl ⟨by rfl, ?y34n69⟩) (HS3.out _ rfl) ?r34n69
            case y34n69 => (intro w' hSw; clear hSw; go_simp; try with_reducible rfl)
            simp only [List.getElem_toArray, List.getElem_cons_succ, List.getElem_cons_zero, Act.put, List.setIfInBounds_toArray, List.set_cons_zero, List.set_cons_succ]
            refine wpAnyH_take (i := 35) (v := ?v35n70) rfl (by kernel_rfl) (by kernel_rfl) (by kernel_rfl) (fun _ _ _ h => h) (Or.inl ⟨by rfl, ?y35n70⟩) (HS3.out _ rfl) ?r35n70
            case y35n70 => (intro w' hSw; clear hSw; go_simp; try with_reducible rfl)
            simp only [List.getElem_toArray, List.getElem_cons_succ, List.getElem_cons_zero, Act.put, List.setIfInBounds_toArray, List.set_cons_zero, List.set_cons_succ]
            refine wpAnyH_ready (rs := [36]) (by kernel_rfl) (by simp) ?_
            refine AllReadyH.cons rfl (fun K hK => ?_) AllReadyH.nil
            simp only [List.getElem_toArray, List.getElem_cons_succ, List.getElem_cons_zero]
            go_simp
            refine (rlabel_told s A A2 a b na ca nb cb x wq2 ((HRa.out.below HDN2.out).more HDN2.out.size) (HNa.out ()) HCa.out (by omega) ((HRb.out.below HDN2.out).more HDN2.out.size) (HNb.out ()) HCb.out).mono ?_
            rintro e' wq3 ⟨v23, rfl, hh, hB⟩
            rw [HL.out ()] at hh
            have HT23 := Lib.hid hh
            have HT22 := Lib.hid ((HR2_22.out).below hB)
            have HT21 := Lib.hid ((HR2_21.out).below hB)
            have HT20 := Lib.hid ((HR2_20.out).below hB)
            have HT5 := Lib.hid ((HR2_5.out).below hB)
            have HT6 := Lib.hid ((HR2_6.out).below hB)
            have HT7 := Lib.hid ((HR2_7.out).below hB)
            have HT8 := Lib.hid ((HR2_8.out).below hB)
            have HDN3 := Lib.hid (HDN2.out.trans (hB.mono HDN2.out.size))
            clear hh hB
            obtain ⟨A23, n23, c23, rfl, -⟩ := id HT23.out
            refine hK.out _ _ ⟨HT22.out.conv, HT21.out.conv, HT20.out.conv, HT5.out.conv, HT6.out.conv, HT7.out.conv, HT8.out.conv⟩ (fun _ => ?_)
            clear hK K
            try simp only [List.getElem_toArray, List.getElem_cons_succ, List.getElem_cons_zero, Act.put, List.setIfInBounds_toArray, List.set_cons_zero, List.set_cons_succ]
            refine wpAnyH_more (S' := fun w' => (convert 22 9 (.slice A23 n23 c23)).run Tryd.prog w' = .ok (.string (txt L)) w' ∧ (convert 22 9 (.slice A22 n22 c22)).run Tryd.prog w' = .ok (.string (txt X)) w' ∧ (convert 22 9 (.slice A21 n21 c21)).run Tryd.prog w' = .ok (.string (txt M)) w' ∧ (convert 22 9 (.slice A20 n20 c20)).run Tryd.prog w' = .ok (.string (txt M)) w' ∧ (convert 22 9 (.slice A5 n5 c5)).run Tryd.prog w' = .ok (.string (txt M)) w' ∧ (convert 22 9 (.slice A6 n6 c6)).run Tryd.prog w' = .ok (.string (txt M)) w' ∧ (convert 22 9 (.slice A7 n7 c7)).run Tryd.prog w' = .ok (.string (txt X)) w' ∧ (convert 22 9 (.slice A8 n8 c8)).run Tryd.prog w' = .ok (.string (txt L)) w') (fun _ h => h.2) _ _ _ _ ?_
            have HR3_23 := HT23
            have HR3_22 := HT22
            have HR3_21 := HT21
            have HR3_20 := HT20
            have HR3_5 := HT5
            have HR3_6 := HT6
            have HR3_7 := HT7
            have HR3_8 := HT8
            clear HT23 HT22 HT21 HT20 HT5 HT6 HT7 HT8
            have HS4 : Hid (∀ w', w' = wq3 → (convert 22 9 (.slice A23 n23 c23)).run Tryd.prog w' = .ok (.string (txt L)) w' ∧ (convert 22 9 (.slice A22 n22 c22)).run Tryd.prog w' = .ok (.string (txt X)) w' ∧ (convert 22 9 (.slice A21 n21 c21)).run Tryd.prog w' = .ok (.string (txt M)) w' ∧ (convert 22 9 (.slice A20 n20 c20)).run Tryd.prog w' = .ok (.string (txt M)) w' ∧ (convert 22 9 (.slice A5 n5 c5)).run Tryd.prog w' = .ok (.string (txt M)) w' ∧ (convert 22 9 (.slice A6 n6 c6)).run Tryd.prog w' = .ok (.string (txt M)) w' ∧ (convert 22 9 (.slice A7 n7 c7)).run Tryd.prog w' = .ok (.string (txt X)) w' ∧ (convert 22 9 (.slice A8 n8 c8)).run Tryd.prog w' = .ok (.string (txt L)) w') := Lib.hid (by rintro w' rfl; exact ⟨HR3_23.out.conv, HR3_22.out.conv, HR3_21.out.conv, HR3_20.out.conv, HR3_5.out.conv, HR3_6.out.conv, HR3_7.out.conv, HR3_8.out.conv⟩)
            refine wpAnyH_take (i := 37) (v := ?v37n71) rfl (by kernel_rfl) (by kernel_rfl) (by kernel_rfl) (fun _ _ _ h => h) (Or.inl ⟨by rfl, ?y37n71⟩) (HS4.out _ rfl) ?r37n71
            case y37n71 => (intro w' hSw; have s1 := hSw.1; (try dsimp only at s1); clear hSw; go_simp; try with_reducible rfl)
            simp only [List.getElem_toArray, List.getElem_cons_succ, List.getElem_cons_zero, Act.put, List.setIfInBounds_toArray, List.set_cons_zero, List.set_cons_succ]
            refine wpAnyH_take (i := 38) (v := ?v38n72) rfl (by kernel_rfl) (by kernel_rfl) (by kernel_rfl) (fun _ _ _ h => h) (Or.inl ⟨by rfl, ?y38n72⟩) (HS4.out _ rfl) ?r38n72
            case y38n72 => (intro w' hSw; clear hSw; go_simp; try with_reducible rfl)
            simp only [List.getElem_toArray, List.getElem_cons_succ, List.getElem_cons_zero, Act.put, List.setIfInBounds_toArray, List.set_cons_zero, List.set_cons_succ]
            refine wpAnyH_take (i := 39) (v := ?v39n73) rfl (by kernel_rfl) (by kernel_rfl) (by kernel_rfl) (fun _ _ _ h => h) (Or.inl ⟨by rfl, ?y39n73⟩) (HS4.out _ rfl) ?r39n73
            case y39n73 => (intro w' hSw; clear hSw; go_simp; try with_reducible rfl)
            simp only [List.getElem_toArray, List.getElem_cons_succ, List.getElem_cons_zero, Act.put, List.setIfInBounds_toArray, List.set_cons_zero, List.set_cons_succ]
            refine wpAnyH_take (i := 40) (v := ?v40n74) rfl (by kernel_rfl) (by kernel_rfl) (by kernel_rfl) (fun _ _ _ h => h) (Or.inl ⟨by rfl, ?y40n74⟩) (HS4.out _ rfl) ?r40n74
            case y40n74 => (intro w' hSw; clear hSw; go_simp; try with_reducible rfl)
            simp only [List.getElem_toArray, List.getElem_cons_succ, List.getElem_cons_zero, Act.put, List.setIfInBounds_toArray, List.set_cons_zero, List.set_cons_succ]
            refine wpAnyH_done (by kernel_rfl) ?_ _
            change Exit.then _ _ Exit.normal _ _
            go_wp2
            go_ret
            exact ⟨rfl, HDN3.out⟩

set_option maxHeartbeats 1000000 in
theorem tells_great (s : ByteArray) (A A2 : Option Addr) (na nb ca cb : Nat) (x : Int) (w : World) (hT : Tables w) (h : 17000 < na ∨ 17000 < nb ∨ 1000 < s.size ∨ (300 < x ∧ x ≤ 8160)) :
    Calls Tryd.prog 3 #[.slice A na ca, .slice A2 nb cb, .string s, .int .i64 x] w fun e w' => e = .returned (.bool true) ∧ Below w.heap.size w w' := by
  have HT := Lib.hid hT; clear hT
  go_enter Tryd.func3, Tryd.ntmps3
  go_wp2_with fail
  refine (head_any _ HT.out).mono ?_
  rintro e' w1 ⟨rfl, hB1⟩
  have HB1 := Lib.hid hB1; clear hB1
  by_cases ha : 17000 < na
  · go_wp2_with fail
    refine (great_yes _ _ _ _ ha).mono ?_
    rintro e' w2 ⟨rfl, rfl⟩
    go_wp2
    go_ret
    exact ⟨rfl, HB1.out⟩
  · go_wp2_with fail
    refine (great_no _ _ _ _ (by omega)).mono ?_
    rintro e' w2 ⟨rfl, rfl⟩
    by_cases hb : 17000 < nb
    · go_wp2_with fail
      refine (great_yes _ _ _ _ hb).mono ?_
      rintro e' w2 ⟨rfl, rfl⟩
      go_wp2
      go_ret
      exact ⟨rfl, HB1.out⟩
    · go_wp2_with fail
      refine (great_no _ _ _ _ (by omega)).mono ?_
      rintro e' w2 ⟨rfl, rfl⟩
      by_cases hs : 1000 < s.size
      · have y1 : (1000 : Int) < (s.size : Int) := by omega
        go_wp2
        go_ret
        exact ⟨rfl, HB1.out⟩
      · have y1 : ¬ (1000 : Int) < (s.size : Int) := by omega
        have z1 : 300 < x := by omega
        have z2 : x ≤ 8160 := by omega
        go_wp2
        go_ret
        exact ⟨rfl, HB1.out⟩

theorem hkdfTells_walk (a0 : Option Addr) (len0 cap0 : Nat) (z0 : List Int) (a1 : Option Addr) (len1 cap1 : Nat) (z1 : List Int) (a2 : ByteArray) (a3 : Int) (w : World) (hT : Tables w) (w0 : IsRow .u8 w a0 len0 cap0 z0) (w1 : IsRow .u8 w a1 len1 cap1 z1) (w2 : a2.size ≤ maxLen) (w3 : (Lit.int .i64 a3).wf = true) :
    Calls Tryd.prog 3 #[.slice a0 len0 cap0, .slice a1 len1 cap1, .string a2, .int .i64 a3] w fun e w' => e = .returned (.bool true) ∧ Below w.heap.size w w' := by
  obtain ⟨r0, n0, m0, c0, x0⟩ := rd_of_row w0
  obtain ⟨r1, n1, m1, c1, x1⟩ := rd_of_row w1
  by_cases h : 17000 < len0 ∨ 17000 < len1 ∨ 1000 < a2.size ∨ (300 < a3 ∧ a3 ≤ 8160)
  · exact tells_great a2 a0 a1 len0 len1 cap0 cap1 a3 w hT h
  · exact tells_walk a2 a0 a1 _ _ len0 len1 cap0 cap1 a3 w hT r0 r1 n0 n1 x0 x1 (by omega) (by omega) (by omega) (by omega)
end Go.Proofs.YtfcnhendebjjeaaDoor.Sha
