/- Walks: KeccakSums. Written by tools/mk_kecsums.py. -/
import Derived.Test.YtocjdklieljelaaDoorKecTold
namespace Go.Proofs.YtocjdklieljelaaDoor.Kec
set_option linter.all false
open Go.RowKit
attribute [local go_sem ↓] Go.wp_at_zero Go.wp_at_succ

theorem below_of_only' {a w w' : World} {g : Nat} (h : Below a.heap.size a w) (hg : w.grownBy w' (some g)) (hl : a.heap.size ≤ g) : Below a.heap.size a w' := below_of_only h hg hl

set_option maxHeartbeats 8000000 in
set_option maxRecDepth 100000 in
theorem sums_walk (A : Option Addr) (a : List Nat) (na ca : Nat) (x : Int) (w : World) (hT : Tables w) (hRa : Rd w w.heap.size A a) (hna : a.length = na)
    (hca : A = none → ca = 0) (hma : na ≤ 5000) (hx : ¬ (3000 < x ∧ x ≤ 65536)) :
    Calls Tryd.prog 3 #[.slice A na ca, .int .i64 x] w fun e w' => e = .returned (.bool true) ∧ Below w.heap.size w w' := by
  have h2 := hT.lt
  have HT := Lib.hid hT; have HRa := Lib.hid hRa; have HNa := Lib.hid (fun _ : Unit => hna); have HCa := Lib.hid hca
  clear hT hRa hna hca
  obtain ⟨M, hM⟩ : ∃ M, sponge 136 6 a 32 = M := ⟨_, rfl⟩
  have HM := Lib.hid (fun _ : Unit => hM); clear hM
  obtain ⟨X, hX⟩ : ∃ X, sponge 72 6 a 64 = X := ⟨_, rfl⟩
  have HX := Lib.hid (fun _ : Unit => hX); clear hX
  obtain ⟨L, hL⟩ : ∃ L, shk 168 31 a x = L := ⟨_, rfl⟩
  have HL := Lib.hid (fun _ : Unit => hL); clear hL
  obtain ⟨U, hU⟩ : ∃ U, shk 136 31 a x = U := ⟨_, rfl⟩
  have HU := Lib.hid (fun _ : Unit => hU); clear hU
  have hxx : (3000 < x ∧ ¬ x ≤ 65536) ∨ ¬ 3000 < x := by omega
  clear hx
  go_enter Tryd.func3, Tryd.ntmps3
  go_wp2_with fail
  refine (head_any _ HT.out).mono ?_
  rintro e' w1 ⟨rfl, hB1⟩
  have HB1 := Lib.hid hB1; clear hB1
  go_wp2_with fail
  refine (great_no _ _ _ _ hma).mono ?_
  rintro e' w2 ⟨rfl, rfl⟩
  have hs1 := HB1.out.size
  have HNIL := Lib.hid (nil_own w1 (base := w1.heap.size) (Nat.le_refl _))
  have HB1a := Lib.hid (HB1.out.alloc hs1 (.cells #[] 5))
  have HRa1 := Lib.hid (HRa.out.below HB1a.out)
  rcases hxx with ⟨z3, z4⟩ | z3
  · go_wp2_with (at_builtin; refine wpList_append_rd rfl (.tmp 24) (.tmp 25) rfl w1.heap.size w1.heap.size 0 0 na ca w.heap.size [] a A rfl rfl HNIL.out HRa1.out (HNa.out ()) HCa.out (by omega) (by simp) ?_)
    intro gk capk w4 hown hgrow hat
    try simp only [Nat.zero_add, List.nil_append] at hown
    have HO4 := Lib.hid hown; have HB4 := Lib.hid (below_of_only' HB1a.out hgrow hs1)
    clear hown hgrow hat HNIL HB1a HRa1
    have hs4 := HB4.out.size
    have hgk1 := (HO4.out.lt gk rfl).1
    have hgk2 := (HO4.out.lt gk rfl).2
    have hcp := own_cap HO4.out
    unfold maxLen at hcp
    have HRk := Lib.hid (rd_of_own HO4.out HRa.out.1 (Nat.le_refl _))
    go_wp2_with fail
    refine (sum256_told (some ⟨gk, 0, none⟩) a na capk w4 (HT.out.below HB4.out h2) HRk.out (HNa.out ()) (by omega)).mono ?_
    rintro e' w5 ⟨v5, rfl, hh, hB⟩
    rw [HM.out ()] at hh
    have HE5 := Lib.hid hB; have HD5 := Lib.hid (HB4.out.trans (hB.mono hs4)); have HH5_5 := Lib.hid hh
    clear hh hB
    obtain ⟨A5, n5, c5, rfl, -⟩ := id HH5_5.out
    go_wp2_with fail
    refine (sum512_told (some ⟨gk, 0, none⟩) a na capk w5 (HT.out.below HD5.out h2) ((HRk.out.below HE5.out).more HE5.out.size) (HNa.out ()) (by omega)).mono ?_
    rintro e' w6 ⟨v6, rfl, hh, hB⟩
    rw [HX.out ()] at hh
    have HE6 := Lib.hid (HE5.out.trans (hB.mono HE5.out.size)); have HD6 := Lib.hid (HD5.out.trans (hB.mono HD5.out.size)); have HH6_6 := Lib.hid (hh.lower (lo' := w4.heap.size) HE5.out.size)
    have HH5_6 := Lib.hid (HH5_5.out.below hB)
    clear hh hB
    obtain ⟨A6, n6, c6, rfl, -⟩ := id HH6_6.out
    go_wp2_with fail
    refine (shake128_told (some ⟨gk, 0, none⟩) a na capk x w6 (HT.out.below HD6.out h2) ((HRk.out.below HE6.out).more HE6.out.size) (HNa.out ()) (by omega)).mono ?_
    rintro e' w7 ⟨v7, rfl, hh, hB⟩
    rw [HL.out ()] at hh
    have HE7 := Lib.hid (HE6.out.trans (hB.mono HE6.out.size)); have HD7 := Lib.hid (HD6.out.trans (hB.mono HD6.out.size)); have HH7_7 := Lib.hid (hh.lower (lo' := w4.heap.size) HE6.out.size)
    have HH5_7 := Lib.hid (HH5_6.out.below hB)
    have HH6_7 := Lib.hid (HH6_6.out.below hB)
    clear hh hB
    obtain ⟨A7, n7, c7, rfl, -⟩ := id HH7_7.out
    go_wp2_with fail
    refine (shake256_told (some ⟨gk, 0, none⟩) a na capk x w7 (HT.out.below HD7.out h2) ((HRk.out.below HE7.out).more HE7.out.size) (HNa.out ()) (by omega)).mono ?_
    rintro e' w8 ⟨v8, rfl, hh, hB⟩
    rw [HU.out ()] at hh
    have HE8 := Lib.hid (HE7.out.trans (hB.mono HE7.out.size)); have HD8 := Lib.hid (HD7.out.trans (hB.mono HD7.out.size)); have HH8_8 := Lib.hid (hh.lower (lo' := w4.heap.size) HE7.out.size)
    have HH5_8 := Lib.hid (HH5_7.out.below hB)
    have HH6_8 := Lib.hid (HH6_7.out.below hB)
    have HH7_8 := Lib.hid (HH7_7.out.below hB)
    clear hh hB
    obtain ⟨A8, n8, c8, rfl, -⟩ := id HH8_8.out
    have HBK := Lib.hid (bytes_of_own (own_below HO4.out HE8.out (Nat.le_refl _)))
    clear HRk HO4 HE5 HE6 HE7 HE8 HD5 HD6 HD7 HH5_5 HH5_6 HH5_7 HH6_6 HH6_7 HH7_7
    have hlk : gk < w4.heap.size := by omega
    have hlw : w.heap.size ≤ gk := by omega
    obtain ⟨lo, hlo⟩ : ∃ lo, w4.heap.size = lo := ⟨_, rfl⟩
    rw [hlo] at HH5_8 HH6_8 HH7_8 HH8_8 hlk
    clear hlo
    go_wp2_with fail
    go_loopw [11] (fun i W => ∃ k : Nat, k ≤ na ∧ i = .int .i64 k ∧ Hid (Bytes W gk na) ∧ Hid (Held lo (.slice A5 n5 c5) M W) ∧ Hid (Held lo (.slice A6 n6 c6) X W) ∧ Hid (Held lo (.slice A7 n7 c7) L W) ∧ Hid (Held lo (.slice A8 n8 c8) U W) ∧ Hid (Below w.heap.size w W)) (fun i _ => na - (intOf i).toNat)
    case atStart => exact ⟨0, by omega, rfl, HBK, HH5_8, HH6_8, HH7_8, HH8_8, HD8⟩
    case round =>
      obtain ⟨k, hk, rfl, HBK2, HP5, HP6, HP7, HP8, HDP⟩ := hrel
      by_cases hkn : k < na
      · obtain ⟨z, c0⟩ := HBK2.out.cell k hkn
        have f0 := HBK2.out.frozen k
        have yk : (k : Int) < (na : Int) := by omega
        go_wp2
        go_roundw
        case rel =>
          have hset := fun u => only_set (World.grownBy.refl wr (some gk)) (p := ⟨gk, k, none⟩) (.inl rfl) u
          exact ⟨k + 1, by omega, by go_num, Lib.hid (HBK2.out.set k _), Lib.hid (HP5.out.grown (hset _) hlk), Lib.hid (HP6.out.grown (hset _) hlk), Lib.hid (HP7.out.grown (hset _) hlk), Lib.hid (HP8.out.grown (hset _) hlk), Lib.hid (HDP.out.setCell hlw _)⟩
        case measure => simp [intOf]; omega
      · have yk : ¬ (k : Int) < (na : Int) := by omega
        go_wp2_with fail
        refine region_calm ?_
        refine wp_region_any (by kernel_rfl) ?_
        change wpAny _ _ _ _ _ _ _ (World.drew _)
        replace HP5 := Lib.hid HP5.out.drew; replace HP6 := Lib.hid HP6.out.drew; replace HP7 := Lib.hid HP7.out.drew; replace HP8 := Lib.hid HP8.out.drew; replace HDP := Lib.hid HDP.out.drew
        generalize World.drew _ = wd at *
        have hsd := HDP.out.size
        have hwd : 3 ≤ wd.heap.size := by omega
        have HS0 : Hid (∀ w', w' = wd → (convert 22 9 (.slice A5 n5 c5)).run Tryd.prog w' = .ok (.string (txt M)) w' ∧ (convert 22 9 (.slice A6 n6 c6)).run Tryd.prog w' = .ok (.string (txt X)) w' ∧ (convert 22 9 (.slice A7 n7 c7)).run Tryd.prog w' = .ok (.string (txt L)) w' ∧ (convert 22 9 (.slice A8 n8 c8)).run Tryd.prog w' = .ok (.string (txt U)) w') := Lib.hid (by rintro w' rfl; exact ⟨HP5.out.conv, HP6.out.conv, HP7.out.conv, HP8.out.conv⟩)
        refine wpAny_of_held (S := fun w' => (convert 22 9 (.slice A5 n5 c5)).run Tryd.prog w' = .ok (.string (txt M)) w' ∧ (convert 22 9 (.slice A6 n6 c6)).run Tryd.prog w' = .ok (.string (txt X)) w' ∧ (convert 22 9 (.slice A7 n7 c7)).run Tryd.prog w' = .ok (.string (txt L)) w' ∧ (convert 22 9 (.slice A8 n8 c8)).run Tryd.prog w' = .ok (.string (txt U)) w') _ _ _ _ ?_
        refine wpAnyH_take (i := 0) (v := ?v0n1) rfl (by kernel_rfl) (by kernel_rfl) (by kernel_rfl) (fun _ _ _ h => h) (Or.inl ⟨by rfl, ?y0n1⟩) (HS0.out _ rfl) ?r0n1
        case y0n1 => (intro w' hSw; clear hSw; go_simp; try with_reducible rfl)
        simp only [List.getElem_toArray, List.getElem_cons_succ, List.getElem_cons_zero, Act.put, List.setIfInBounds_toArray, List.set_cons_zero, List.set_cons_succ]
        refine wpAnyH_take (i := 1) (v := ?v1n2) rfl (by kernel_rfl) (by kernel_rfl) (by kernel_rfl) (fun _ _ _ h => h) (Or.inl ⟨by rfl, ?y1n2⟩) (HS0.out _ rfl) ?r1n2
        case y1n2 => (intro w' hSw; clear hSw; go_simp; try with_reducible rfl)
        simp only [List.getElem_toArray, List.getElem_cons_succ, List.getElem_cons_zero, Act.put, List.setIfInBounds_toArray, List.set_cons_zero, List.set_cons_succ]
        refine wpAnyH_take (i := 2) (v := ?v2n3) rfl (by kernel_rfl) (by kernel_rfl) (by kernel_rfl) (fun _ _ _ h => h) (Or.inl ⟨by rfl, ?y2n3⟩) (HS0.out _ rfl) ?r2n3
        case y2n3 => (intro w' hSw; clear hSw; go_simp; try with_reducible rfl)
        simp only [List.getElem_toArray, List.getElem_cons_succ, List.getElem_cons_zero, Act.put, List.setIfInBounds_toArray, List.set_cons_zero, List.set_cons_succ]
        refine wpAnyH_take (i := 3) (v := ?v3n4) rfl (by kernel_rfl) (by kernel_rfl) (by kernel_rfl) (fun _ _ _ h => h) (Or.inl ⟨by rfl, ?y3n4⟩) (HS0.out _ rfl) ?r3n4
        case y3n4 => (intro w' hSw; have s1 := hSw.1; (try dsimp only at s1); clear hSw; go_simp; try with_reducible rfl)
        simp only [List.getElem_toArray, List.getElem_cons_succ, List.getElem_cons_zero, Act.put, List.setIfInBounds_toArray, List.set_cons_zero, List.set_cons_succ]
        refine wpAnyH_take (i := 4) (v := ?v4n5) rfl (by kernel_rfl) (by kernel_rfl) (by kernel_rfl) (fun _ _ _ h => h) (Or.inl ⟨by rfl, ?y4n5⟩) (HS0.out _ rfl) ?r4n5
        case y4n5 => (intro w' hSw; clear hSw; go_simp; try with_reducible rfl)
        simp only [List.getElem_toArray, List.getElem_cons_succ, List.getElem_cons_zero, Act.put, List.setIfInBounds_toArray, List.set_cons_zero, List.set_cons_succ]
        refine wpAnyH_ready (rs := [5]) (by kernel_rfl) (by simp) ?_
        refine AllReadyH.cons rfl (fun K hK => ?_) AllReadyH.nil
        simp only [List.getElem_toArray, List.getElem_cons_succ, List.getElem_cons_zero]
        go_simp
        refine (rsum256_told A a na ca wd hwd ((HRa.out.below HDP.out).more HDP.out.size) (HNa.out ()) (by omega)).mono ?_
        rintro e' wq0 ⟨v20, rfl, hh, hB⟩
        rw [HM.out ()] at hh
        have h3q0 : 3 ≤ wq0.heap.size := Nat.le_trans hwd hB.size
        have HT20 := Lib.hid hh
        have HT5 := Lib.hid ((HP5.out).below hB)
        have HT6 := Lib.hid ((HP6.out).below hB)
        have HT7 := Lib.hid ((HP7.out).below hB)
        have HT8 := Lib.hid ((HP8.out).below hB)
        have HDN0 := Lib.hid (HDP.out.trans (hB.mono HDP.out.size))
        clear hh hB
        obtain ⟨A20, n20, c20, rfl, -⟩ := id HT20.out
        refine hK.out _ _ ⟨HT5.out.conv, HT6.out.conv, HT7.out.conv, HT8.out.conv⟩ (fun _ => ?_)
        clear hK K
        try simp only [List.getElem_toArray, List.getElem_cons_succ, List.getElem_cons_zero, Act.put, List.setIfInBounds_toArray, List.set_cons_zero, List.set_cons_succ]
        refine wpAnyH_more (S' := fun w' => (convert 22 9 (.slice A20 n20 c20)).run Tryd.prog w' = .ok (.string (txt M)) w' ∧ (convert 22 9 (.slice A5 n5 c5)).run Tryd.prog w' = .ok (.string (txt M)) w' ∧ (convert 22 9 (.slice A6 n6 c6)).run Tryd.prog w' = .ok (.string (txt X)) w' ∧ (convert 22 9 (.slice A7 n7 c7)).run Tryd.prog w' = .ok (.string (txt L)) w' ∧ (convert 22 9 (.slice A8 n8 c8)).run Tryd.prog w' = .ok (.string (txt U)) w') (fun _ h => h.2) _ _ _ _ ?_
        have HR0_20 := HT20
        have HR0_5 := HT5
        have HR0_6 := HT6
        have HR0_7 := HT7
        have HR0_8 := HT8
        clear HT20 HT5 HT6 HT7 HT8
        have HS1 : Hid (∀ w', w' = wq0 → (convert 22 9 (.slice A20 n20 c20)).run Tryd.prog w' = .ok (.string (txt M)) w' ∧ (convert 22 9 (.slice A5 n5 c5)).run Tryd.prog w' = .ok (.string (txt M)) w' ∧ (convert 22 9 (.slice A6 n6 c6)).run Tryd.prog w' = .ok (.string (txt X)) w' ∧ (convert 22 9 (.slice A7 n7 c7)).run Tryd.prog w' = .ok (.string (txt L)) w' ∧ (convert 22 9 (.slice A8 n8 c8)).run Tryd.prog w' = .ok (.string (txt U)) w') := Lib.hid (by rintro w' rfl; exact ⟨HR0_20.out.conv, HR0_5.out.conv, HR0_6.out.conv, HR0_7.out.conv, HR0_8.out.conv⟩)
        refine wpAnyH_take (i := 6) (v := ?v6n6) rfl (by kernel_rfl) (by kernel_rfl) (by kernel_rfl) (fun _ _ _ h => h) (Or.inl ⟨by rfl, ?y6n6⟩) (HS1.out _ rfl) ?r6n6
        case y6n6 => (intro w' hSw; have s1 := hSw.1; (try dsimp only at s1); clear hSw; go_simp; try with_reducible rfl)
        simp only [List.getElem_toArray, List.getElem_cons_succ, List.getElem_cons_zero, Act.put, List.setIfInBounds_toArray, List.set_cons_zero, List.set_cons_succ]
        refine wpAnyH_take (i := 7) (v := ?v7n7) rfl (by kernel_rfl) (by kernel_rfl) (by kernel_rfl) (fun _ _ _ h => h) (Or.inl ⟨by rfl, ?y7n7⟩) (HS1.out _ rfl) ?r7n7
        case y7n7 => (intro w' hSw; clear hSw; go_simp; try with_reducible rfl)
        simp only [List.getElem_toArray, List.getElem_cons_succ, List.getElem_cons_zero, Act.put, List.setIfInBounds_toArray, List.set_cons_zero, List.set_cons_succ]
        refine wpAnyH_take (i := 8) (v := ?v8n8) rfl (by kernel_rfl) (by kernel_rfl) (by kernel_rfl) (fun _ _ _ h => h) (Or.inl ⟨by rfl, ?y8n8⟩) (HS1.out _ rfl) ?r8n8
        case y8n8 => (intro w' hSw; clear hSw; go_simp; try with_reducible rfl)
        simp only [List.getElem_toArray, List.getElem_cons_succ, List.getElem_cons_zero, Act.put, List.setIfInBounds_toArray, List.set_cons_zero, List.set_cons_succ]
        refine wpAnyH_take (i := 9) (v := ?v9n9) rfl (by kernel_rfl) (by kernel_rfl) (by kernel_rfl) (fun _ _ _ h => h) (Or.inl ⟨by rfl, ?y9n9⟩) (HS1.out _ rfl) ?r9n9
        case y9n9 => (intro w' hSw; clear hSw; go_simp; try with_reducible rfl)
        simp only [List.getElem_toArray, List.getElem_cons_succ, List.getElem_cons_zero, Act.put, List.setIfInBounds_toArray, List.set_cons_zero, List.set_cons_succ]
        refine wpAnyH_take (i := 10) (v := ?v10n10) rfl (by kernel_rfl) (by kernel_rfl) (by kernel_rfl) (fun _ _ _ h => h) (Or.inl ⟨by rfl, ?y10n10⟩) (HS1.out _ rfl) ?r10n10
        case y10n10 => (intro w' hSw; clear hSw; go_simp; try with_reducible rfl)
        simp only [List.getElem_toArray, List.getElem_cons_succ, List.getElem_cons_zero, Act.put, List.setIfInBounds_toArray, List.set_cons_zero, List.set_cons_succ]
        refine wpAnyH_take (i := 11) (v := ?v11n11) rfl (by kernel_rfl) (by kernel_rfl) (by kernel_rfl) (fun _ _ _ h => h) (Or.inl ⟨by rfl, ?y11n11⟩) (HS1.out _ rfl) ?r11n11
        case y11n11 => (intro w' hSw; have s1 := hSw.2.2.1; (try dsimp only at s1); clear hSw; go_simp; try with_reducible rfl)
        simp only [List.getElem_toArray, List.getElem_cons_succ, List.getElem_cons_zero, Act.put, List.setIfInBounds_toArray, List.set_cons_zero, List.set_cons_succ]
        refine wpAnyH_take (i := 12) (v := ?v12n12) rfl (by kernel_rfl) (by kernel_rfl) (by kernel_rfl) (fun _ _ _ h => h) (Or.inl ⟨by rfl, ?y12n12⟩) (HS1.out _ rfl) ?r12n12
        case y12n12 => (intro w' hSw; clear hSw; go_simp; try with_reducible rfl)
        simp only [List.getElem_toArray, List.getElem_cons_succ, List.getElem_cons_zero, Act.put, List.setIfInBounds_toArray, List.set_cons_zero, List.set_cons_succ]
        refine wpAnyH_ready (rs := [13]) (by kernel_rfl) (by simp) ?_
        refine AllReadyH.cons rfl (fun K hK => ?_) AllReadyH.nil
        simp only [List.getElem_toArray, List.getElem_cons_succ, List.getElem_cons_zero]
        go_simp
        refine (rsum512_told A a na ca wq0 h3q0 ((HRa.out.below HDN0.out).more HDN0.out.size) (HNa.out ()) (by omega)).mono ?_
        rintro e' wq1 ⟨v21, rfl, hh, hB⟩
        rw [HX.out ()] at hh
        have h3q1 : 3 ≤ wq1.heap.size := Nat.le_trans h3q0 hB.size
        have HT21 := Lib.hid hh
        have HT20 := Lib.hid ((HR0_20.out).below hB)
        have HT5 := Lib.hid ((HR0_5.out).below hB)
        have HT6 := Lib.hid ((HR0_6.out).below hB)
        have HT7 := Lib.hid ((HR0_7.out).below hB)
        have HT8 := Lib.hid ((HR0_8.out).below hB)
        have HDN1 := Lib.hid (HDN0.out.trans (hB.mono HDN0.out.size))
        clear hh hB
        obtain ⟨A21, n21, c21, rfl, -⟩ := id HT21.out
        refine hK.out _ _ ⟨HT20.out.conv, HT5.out.conv, HT6.out.conv, HT7.out.conv, HT8.out.conv⟩ (fun _ => ?_)
        clear hK K
        try simp only [List.getElem_toArray, List.getElem_cons_succ, List.getElem_cons_zero, Act.put, List.setIfInBounds_toArray, List.set_cons_zero, List.set_cons_succ]
        refine wpAnyH_more (S' := fun w' => (convert 22 9 (.slice A21 n21 c21)).run Tryd.prog w' = .ok (.string (txt X)) w' ∧ (convert 22 9 (.slice A20 n20 c20)).run Tryd.prog w' = .ok (.string (txt M)) w' ∧ (convert 22 9 (.slice A5 n5 c5)).run Tryd.prog w' = .ok (.string (txt M)) w' ∧ (convert 22 9 (.slice A6 n6 c6)).run Tryd.prog w' = .ok (.string (txt X)) w' ∧ (convert 22 9 (.slice A7 n7 c7)).run Tryd.prog w' = .ok (.string (txt L)) w' ∧ (convert 22 9 (.slice A8 n8 c8)).run Tryd.prog w' = .ok (.string (txt U)) w') (fun _ h => h.2) _ _ _ _ ?_
        have HR1_21 := HT21
        have HR1_20 := HT20
        have HR1_5 := HT5
        have HR1_6 := HT6
        have HR1_7 := HT7
        have HR1_8 := HT8
        clear HT21 HT20 HT5 HT6 HT7 HT8
        have HS2 : Hid (∀ w', w' = wq1 → (convert 22 9 (.slice A21 n21 c21)).run Tryd.prog w' = .ok (.string (txt X)) w' ∧ (convert 22 9 (.slice A20 n20 c20)).run Tryd.prog w' = .ok (.string (txt M)) w' ∧ (convert 22 9 (.slice A5 n5 c5)).run Tryd.prog w' = .ok (.string (txt M)) w' ∧ (convert 22 9 (.slice A6 n6 c6)).run Tryd.prog w' = .ok (.string (txt X)) w' ∧ (convert 22 9 (.slice A7 n7 c7)).run Tryd.prog w' = .ok (.string (txt L)) w' ∧ (convert 22 9 (.slice A8 n8 c8)).run Tryd.prog w' = .ok (.string (txt U)) w') := Lib.hid (by rintro w' rfl; exact ⟨HR1_21.out.conv, HR1_20.out.conv, HR1_5.out.conv, HR1_6.out.conv, HR1_7.out.conv, HR1_8.out.conv⟩)
        refine wpAnyH_take (i := 14) (v := ?v14n13) rfl (by kernel_rfl) (by kernel_rfl) (by kernel_rfl) (fun _ _ _ h => h) (Or.inl ⟨by rfl, ?y14n13⟩) (HS2.out _ rfl) ?r14n13
        case y14n13 => (intro w' hSw; have s1 := hSw.1; (try dsimp only at s1); clear hSw; go_simp; try with_reducible rfl)
        simp only [List.getElem_toArray, List.getElem_cons_succ, List.getElem_cons_zero, Act.put, List.setIfInBounds_toArray, List.set_cons_zero, List.set_cons_succ]
        refine wpAnyH_take (i := 15) (v := ?v15n14) rfl (by kernel_rfl) (by kernel_rfl) (by kernel_rfl) (fun _ _ _ h => h) (Or.inl ⟨by rfl, ?y15n14⟩) (HS2.out _ rfl) ?r15n14
        case y15n14 => (intro w' hSw; clear hSw; go_simp; try with_reducible rfl)
        simp only [List.getElem_toArray, List.getElem_cons_succ, List.getElem_cons_zero, Act.put, List.setIfInBounds_toArray, List.set_cons_zero, List.set_cons_succ]
        refine wpAnyH_take (i := 16) (v := ?v16n15) rfl (by kernel_rfl) (by kernel_rfl) (by kernel_rfl) (fun _ _ _ h => h) (Or.inl ⟨by rfl, ?y16n15⟩) (HS2.out _ rfl) ?r16n15
        case y16n15 => (intro w' hSw; clear hSw; go_simp; try with_reducible rfl)
        simp only [List.getElem_toArray, List.getElem_cons_succ, List.getElem_cons_zero, Act.put, List.setIfInBounds_toArray, List.set_cons_zero, List.set_cons_succ]
        refine wpAnyH_take (i := 17) (v := ?v17n16) rfl (by kernel_rfl) (by kernel_rfl) (by kernel_rfl) (fun _ _ _ h => h) (Or.inl ⟨by rfl, ?y17n16⟩) (HS2.out _ rfl) ?r17n16
        case y17n16 => (intro w' hSw; clear hSw; go_simp; try with_reducible rfl)
        simp only [List.getElem_toArray, List.getElem_cons_succ, List.getElem_cons_zero, Act.put, List.setIfInBounds_toArray, List.set_cons_zero, List.set_cons_succ]
        refine wpAnyH_take (i := 18) (v := ?v18n17) rfl (by kernel_rfl) (by kernel_rfl) (by kernel_rfl) (fun _ _ _ h => h) (Or.inl ⟨by rfl, ?y18n17⟩) (HS2.out _ rfl) ?r18n17
        case y18n17 => (intro w' hSw; clear hSw; go_simp; try with_reducible rfl)
        simp only [List.getElem_toArray, List.getElem_cons_succ, List.getElem_cons_zero, Act.put, List.setIfInBounds_toArray, List.set_cons_zero, List.set_cons_succ]
        refine wpAnyH_take (i := 19) (v := ?v19n18) rfl (by kernel_rfl) (by kernel_rfl) (by kernel_rfl) (fun _ _ _ h => h) (Or.inl ⟨by rfl, ?y19n18⟩) (HS2.out _ rfl) ?r19n18
        case y19n18 => (intro w' hSw; have s1 := hSw.2.2.2.2.1; (try dsimp only at s1); clear hSw; go_simp; try with_reducible rfl)
        simp only [List.getElem_toArray, List.getElem_cons_succ, List.getElem_cons_zero, Act.put, List.setIfInBounds_toArray, List.set_cons_zero, List.set_cons_succ]
        refine wpAnyH_take (i := 20) (v := ?v20n19) rfl (by kernel_rfl) (by kernel_rfl) (by kernel_rfl) (fun _ _ _ h => h) (Or.inl ⟨by rfl, ?y20n19⟩) (HS2.out _ rfl) ?r20n19
        case y20n19 => (intro w' hSw; clear hSw; go_simp; try with_reducible rfl)
        simp only [List.getElem_toArray, List.getElem_cons_succ, List.getElem_cons_zero, Act.put, List.setIfInBounds_toArray, List.set_cons_zero, List.set_cons_succ]
        refine wpAnyH_take (i := 21) (v := ?v21n20) rfl (by kernel_rfl) (by kernel_rfl) (by kernel_rfl) (fun _ _ _ h => h) (Or.inl ⟨by rfl, ?y21n20⟩) (HS2.out _ rfl) ?r21n20
        case y21n20 => (intro w' hSw; clear hSw; go_simp; try with_reducible rfl)
        simp only [List.getElem_toArray, List.getElem_cons_succ, List.getElem_cons_zero, Act.put, List.setIfInBounds_toArray, List.set_cons_zero, List.set_cons_succ]
        refine wpAnyH_ready (rs := [22]) (by kernel_rfl) (by simp) ?_
        refine AllReadyH.cons rfl (fun K hK => ?_) AllReadyH.nil
        simp only [List.getElem_toArray, List.getElem_cons_succ, List.getElem_cons_zero]
        go_simp
        refine (rshake128_told A a na ca x wq1 h3q1 ((HRa.out.below HDN1.out).more HDN1.out.size) (HNa.out ()) (by omega)).mono ?_
        rintro e' wq2 ⟨v22, rfl, hh, hB⟩
        rw [HL.out ()] at hh
        have h3q2 : 3 ≤ wq2.heap.size := Nat.le_trans h3q1 hB.size
        have HT22 := Lib.hid hh
        have HT21 := Lib.hid ((HR1_21.out).below hB)
        have HT20 := Lib.hid ((HR1_20.out).below hB)
        have HT5 := Lib.hid ((HR1_5.out).below hB)
        have HT6 := Lib.hid ((HR1_6.out).below hB)
        have HT7 := Lib.hid ((HR1_7.out).below hB)
        have HT8 := Lib.hid ((HR1_8.out).below hB)
        have HDN2 := Lib.hid (HDN1.out.trans (hB.mono HDN1.out.size))
        clear hh hB
        obtain ⟨A22, n22, c22, rfl, -⟩ := id HT22.out
        refine hK.out _ _ ⟨HT21.out.conv, HT20.out.conv, HT5.out.conv, HT6.out.conv, HT7.out.conv, HT8.out.conv⟩ (fun _ => ?_)
        clear hK K
        try simp only [List.getElem_toArray, List.getElem_cons_succ, List.getElem_cons_zero, Act.put, List.setIfInBounds_toArray, List.set_cons_zero, List.set_cons_succ]
        refine wpAnyH_more (S' := fun w' => (convert 22 9 (.slice A22 n22 c22)).run Tryd.prog w' = .ok (.string (txt L)) w' ∧ (convert 22 9 (.slice A21 n21 c21)).run Tryd.prog w' = .ok (.string (txt X)) w' ∧ (convert 22 9 (.slice A20 n20 c20)).run Tryd.prog w' = .ok (.string (txt M)) w' ∧ (convert 22 9 (.slice A5 n5 c5)).run Tryd.prog w' = .ok (.string (txt M)) w' ∧ (convert 22 9 (.slice A6 n6 c6)).run Tryd.prog w' = .ok (.string (txt X)) w' ∧ (convert 22 9 (.slice A7 n7 c7)).run Tryd.prog w' = .ok (.string (txt L)) w' ∧ (convert 22 9 (.slice A8 n8 c8)).run Tryd.prog w' = .ok (.string (txt U)) w') (fun _ h => h.2) _ _ _ _ ?_
        have HR2_22 := HT22
        have HR2_21 := HT21
        have HR2_20 := HT20
        have HR2_5 := HT5
        have HR2_6 := HT6
        have HR2_7 := HT7
        have HR2_8 := HT8
        clear HT22 HT21 HT20 HT5 HT6 HT7 HT8
        have HS3 : Hid (∀ w', w' = wq2 → (convert 22 9 (.slice A22 n22 c22)).run Tryd.prog w' = .ok (.string (txt L)) w' ∧ (convert 22 9 (.slice A21 n21 c21)).run Tryd.prog w' = .ok (.string (txt X)) w' ∧ (convert 22 9 (.slice A20 n20 c20)).run Tryd.prog w' = .ok (.string (txt M)) w' ∧ (convert 22 9 (.slice A5 n5 c5)).run Tryd.prog w' = .ok (.string (txt M)) w' ∧ (convert 22 9 (.slice A6 n6 c6)).run Tryd.prog w' = .ok (.string (txt X)) w' ∧ (convert 22 9 (.slice A7 n7 c7)).run Tryd.prog w' = .ok (.string (txt L)) w' ∧ (convert 22 9 (.slice A8 n8 c8)).run Tryd.prog w' = .ok (.string (txt U)) w') := Lib.hid (by rintro w' rfl; exact ⟨HR2_22.out.conv, HR2_21.out.conv, HR2_20.out.conv, HR2_5.out.conv, HR2_6.out.conv, HR2_7.out.conv, HR2_8.out.conv⟩)
        refine wpAnyH_take (i := 23) (v := ?v23n21) rfl (by kernel_rfl) (by kernel_rfl) (by kernel_rfl) (fun _ _ _ h => h) (Or.inl ⟨by rfl, ?y23n21⟩) (HS3.out _ rfl) ?r23n21
        case y23n21 => (intro w' hSw; have s1 := hSw.1; (try dsimp only at s1); clear hSw; go_simp; try with_reducible rfl)
        simp only [List.getElem_toArray, List.getElem_cons_succ, List.getElem_cons_zero, Act.put, List.setIfInBounds_toArray, List.set_cons_zero, List.set_cons_succ]
        refine wpAnyH_take (i := 24) (v := ?v24n22) rfl (by kernel_rfl) (by kernel_rfl) (by kernel_rfl) (fun _ _ _ h => h) (Or.inl ⟨by rfl, ?y24n22⟩) (HS3.out _ rfl) ?r24n22
        case y24n22 => (intro w' hSw; clear hSw; go_simp; try with_reducible rfl)
        simp only [List.getElem_toArray, List.getElem_cons_succ, List.getElem_cons_zero, Act.put, List.setIfInBounds_toArray, List.set_cons_zero, List.set_cons_succ]
        refine wpAnyH_take (i := 25) (v := ?v25n23) rfl (by kernel_rfl) (by kernel_rfl) (by kernel_rfl) (fun _ _ _ h => h) (Or.inl ⟨by rfl, ?y25n23⟩) (HS3.out _ rfl) ?r25n23
        case y25n23 => (intro w' hSw; clear hSw; go_simp; try with_reducible rfl)
        simp only [List.getElem_toArray, List.getElem_cons_succ, List.getElem_cons_zero, Act.put, List.setIfInBounds_toArray, List.set_cons_zero, List.set_cons_succ]
        refine wpAnyH_take (i := 26) (v := ?v26n24) rfl (by kernel_rfl) (by kernel_rfl) (by kernel_rfl) (fun _ _ _ h => h) (Or.inl ⟨by rfl, ?y26n24⟩) (HS3.out _ rfl) ?r26n24
        case y26n24 => (intro w' hSw; clear hSw; go_simp; try with_reducible rfl)
        simp only [List.getElem_toArray, List.getElem_cons_succ, List.getElem_cons_zero, Act.put, List.setIfInBounds_toArray, List.set_cons_zero, List.set_cons_succ]
        refine wpAnyH_take (i := 27) (v := ?v27n25) rfl (by kernel_rfl) (by kernel_rfl) (by kernel_rfl) (fun _ _ _ h => h) (Or.inl ⟨by rfl, ?y27n25⟩) (HS3.out _ rfl) ?r27n25
        case y27n25 => (intro w' hSw; clear hSw; go_simp; try with_reducible rfl)
        simp only [List.getElem_toArray, List.getElem_cons_succ, List.getElem_cons_zero, Act.put, List.setIfInBounds_toArray, List.set_cons_zero, List.set_cons_succ]
        refine wpAnyH_take (i := 28) (v := ?v28n26) rfl (by kernel_rfl) (by kernel_rfl) (by kernel_rfl) (fun _ _ _ h => h) (Or.inl ⟨by rfl, ?y28n26⟩) (HS3.out _ rfl) ?r28n26
        case y28n26 => (intro w' hSw; have s1 := hSw.2.2.2.2.2.2; (try dsimp only at s1); clear hSw; go_simp; try with_reducible rfl)
        simp only [List.getElem_toArray, List.getElem_cons_succ, List.getElem_cons_zero, Act.put, List.setIfInBounds_toArray, List.set_cons_zero, List.set_cons_succ]
        refine wpAnyH_take (i := 29) (v := ?v29n27) rfl (by kernel_rfl) (by kernel_rfl) (by kernel_rfl) (fun _ _ _ h => h) (Or.inl ⟨by rfl, ?y29n27⟩) (HS3.out _ rfl) ?r29n27
        case y29n27 => (intro w' hSw; clear hSw; go_simp; try with_reducible rfl)
        simp only [List.getElem_toArray, List.getElem_cons_succ, List.getElem_cons_zero, Act.put, List.setIfInBounds_toArray, List.set_cons_zero, List.set_cons_succ]
        refine wpAnyH_take (i := 30) (v := ?v30n28) rfl (by kernel_rfl) (by kernel_rfl) (by kernel_rfl) (fun _ _ _ h => h) (Or.inl ⟨by rfl, ?y30n28⟩) (HS3.out _ rfl) ?r30n28
        case y30n28 => (intro w' hSw; clear hSw; go_simp; try with_reducible rfl)
        simp only [List.getElem_toArray, List.getElem_cons_succ, List.getElem_cons_zero, Act.put, List.setIfInBounds_toArray, List.set_cons_zero, List.set_cons_succ]
        refine wpAnyH_ready (rs := [31]) (by kernel_rfl) (by simp) ?_
        refine AllReadyH.cons rfl (fun K hK => ?_) AllReadyH.nil
        simp only [List.getElem_toArray, List.getElem_cons_succ, List.getElem_cons_zero]
        go_simp
        refine (rshake256_told A a na ca x wq2 h3q2 ((HRa.out.below HDN2.out).more HDN2.out.size) (HNa.out ()) (by omega)).mono ?_
        rintro e' wq3 ⟨v23, rfl, hh, hB⟩
        rw [HU.out ()] at hh
        have h3q3 : 3 ≤ wq3.heap.size := Nat.le_trans h3q2 hB.size
        have HT23 := Lib.hid hh
        have HT22 := Lib.hid ((HR2_22.out).below hB)
        have HT21 := Lib.hid ((HR2_21.out).below hB)
        have HT20 := Lib.hid ((HR2_20.out).below hB)
        have HT5 := Lib.hid ((HR2_5.out).below hB)
        have HT6 := Lib.hid ((HR2_6.out).below hB)
        have HT7 := Lib.hid ((HR2_7.out).below hB)
        have HT8 := Lib.hid ((HR2_8.out).below hB)
        have HDN3 := Lib.hid (HDN2.out.trans (hB.mono HDN2.out.size))
        clear hh hB
        obtain ⟨A23, n23, c23, rfl, -⟩ := id HT23.out
        refine hK.out _ _ ⟨HT22.out.conv, HT21.out.conv, HT20.out.conv, HT5.out.conv, HT6.out.conv, HT7.out.conv, HT8.out.conv⟩ (fun _ => ?_)
        clear hK K
        try simp only [List.getElem_toArray, List.getElem_cons_succ, List.getElem_cons_zero, Act.put, List.setIfInBounds_toArray, List.set_cons_zero, List.set_cons_succ]
        refine wpAnyH_more (S' := fun w' => (convert 22 9 (.slice A23 n23 c23)).run Tryd.prog w' = .ok (.string (txt U)) w' ∧ (convert 22 9 (.slice A22 n22 c22)).run Tryd.prog w' = .ok (.string (txt L)) w' ∧ (convert 22 9 (.slice A21 n21 c21)).run Tryd.prog w' = .ok (.string (txt X)) w' ∧ (convert 22 9 (.slice A20 n20 c20)).run Tryd.prog w' = .ok (.string (txt M)) w' ∧ (convert 22 9 (.slice A5 n5 c5)).run Tryd.prog w' = .ok (.string (txt M)) w' ∧ (convert 22 9 (.slice A6 n6 c6)).run Tryd.prog w' = .ok (.string (txt X)) w' ∧ (convert 22 9 (.slice A7 n7 c7)).run Tryd.prog w' = .ok (.string (txt L)) w' ∧ (convert 22 9 (.slice A8 n8 c8)).run Tryd.prog w' = .ok (.string (txt U)) w') (fun _ h => h.2) _ _ _ _ ?_
        have HR3_23 := HT23
        have HR3_22 := HT22
        have HR3_21 := HT21
        have HR3_20 := HT20
        have HR3_5 := HT5
        have HR3_6 := HT6
        have HR3_7 := HT7
        have HR3_8 := HT8
        clear HT23 HT22 HT21 HT20 HT5 HT6 HT7 HT8
        have HS4 : Hid (∀ w', w' = wq3 → (convert 22 9 (.slice A23 n23 c23)).run Tryd.prog w' = .ok (.string (txt U)) w' ∧ (convert 22 9 (.slice A22 n22 c22)).run Tryd.prog w' = .ok (.string (txt L)) w' ∧ (convert 22 9 (.slice A21 n21 c21)).run Tryd.prog w' = .ok (.string (txt X)) w' ∧ (convert 22 9 (.slice A20 n20 c20)).run Tryd.prog w' = .ok (.string (txt M)) w' ∧ (convert 22 9 (.slice A5 n5 c5)).run Tryd.prog w' = .ok (.string (txt M)) w' ∧ (convert 22 9 (.slice A6 n6 c6)).run Tryd.prog w' = .ok (.string (txt X)) w' ∧ (convert 22 9 (.slice A7 n7 c7)).run Tryd.prog w' = .ok (.string (txt L)) w' ∧ (convert 22 9 (.slice A8 n8 c8)).run Tryd.prog w' = .ok (.string (txt U)) w') := Lib.hid (by rintro w' rfl; exact ⟨HR3_23.out.conv, HR3_22.out.conv, HR3_21.out.conv, HR3_20.out.conv, HR3_5.out.conv, HR3_6.out.conv, HR3_7.out.conv, HR3_8.out.conv⟩)
        refine wpAnyH_take (i := 32) (v := ?v32n29) rfl (by kernel_rfl) (by kernel_rfl) (by kernel_rfl) (fun _ _ _ h => h) (Or.inl ⟨by rfl, ?y32n29⟩) (HS4.out _ rfl) ?r32n29
        case y32n29 => (intro w' hSw; have s1 := hSw.1; (try dsimp only at s1); clear hSw; go_simp; try with_reducible rfl)
        simp only [List.getElem_toArray, List.getElem_cons_succ, List.getElem_cons_zero, Act.put, List.setIfInBounds_toArray, List.set_cons_zero, List.set_cons_succ]
        refine wpAnyH_take (i := 33) (v := ?v33n30) rfl (by kernel_rfl) (by kernel_rfl) (by kernel_rfl) (fun _ _ _ h => h) (Or.inl ⟨by rfl, ?y33n30⟩) (HS4.out _ rfl) ?r33n30
        case y33n30 => (intro w' hSw; clear hSw; go_simp; try with_reducible rfl)
        simp only [List.getElem_toArray, List.getElem_cons_succ, List.getElem_cons_zero, Act.put, List.setIfInBounds_toArray, List.set_cons_zero, List.set_cons_succ]
        refine wpAnyH_take (i := 34) (v := ?v34n31) rfl (by kernel_rfl) (by kernel_rfl) (by kernel_rfl) (fun _ _ _ h => h) (Or.inl ⟨by rfl, ?y34n31⟩) (HS4.out _ rfl) ?r34n31
        case y34n31 => (intro w' hSw; clear hSw; go_simp; try with_reducible rfl)
        simp only [List.getElem_toArray, List.getElem_cons_succ, List.getElem_cons_zero, Act.put, List.setIfInBounds_toArray, List.set_cons_zero, List.set_cons_succ]
        refine wpAnyH_take (i := 35) (v := ?v35n32) rfl (by kernel_rfl) (by kernel_rfl) (by kernel_rfl) (fun _ _ _ h => h) (Or.inl ⟨by rfl, ?y35n32⟩) (HS4.out _ rfl) ?r35n32
        case y35n32 => (intro w' hSw; clear hSw; go_simp; try with_reducible rfl)
        simp only [List.getElem_toArray, List.getElem_cons_succ, List.getElem_cons_zero, Act.put, List.setIfInBounds_toArray, List.set_cons_zero, List.set_cons_succ]
        refine wpAnyH_done (by kernel_rfl) ?_ _
        change Exit.then _ _ Exit.normal _ _
        go_wp2
        go_ret
        exact ⟨rfl, HDN3.out⟩
  · go_wp2_with (at_builtin; refine wpList_append_rd rfl (.tmp 24) (.tmp 25) rfl w1.heap.size w1.heap.size 0 0 na ca w.heap.size [] a A rfl rfl HNIL.out HRa1.out (HNa.out ()) HCa.out (by omega) (by simp) ?_)
    intro gk capk w4 hown hgrow hat
    try simp only [Nat.zero_add, List.nil_append] at hown
    have HO4 := Lib.hid hown; have HB4 := Lib.hid (below_of_only' HB1a.out hgrow hs1)
    clear hown hgrow hat HNIL HB1a HRa1
    have hs4 := HB4.out.size
    have hgk1 := (HO4.out.lt gk rfl).1
    have hgk2 := (HO4.out.lt gk rfl).2
    have hcp := own_cap HO4.out
    unfold maxLen at hcp
    have HRk := Lib.hid (rd_of_own HO4.out HRa.out.1 (Nat.le_refl _))
    go_wp2_with fail
    refine (sum256_told (some ⟨gk, 0, none⟩) a na capk w4 (HT.out.below HB4.out h2) HRk.out (HNa.out ()) (by omega)).mono ?_
    rintro e' w5 ⟨v5, rfl, hh, hB⟩
    rw [HM.out ()] at hh
    have HE5 := Lib.hid hB; have HD5 := Lib.hid (HB4.out.trans (hB.mono hs4)); have HH5_5 := Lib.hid hh
    clear hh hB
    obtain ⟨A5, n5, c5, rfl, -⟩ := id HH5_5.out
    go_wp2_with fail
    refine (sum512_told (some ⟨gk, 0, none⟩) a na capk w5 (HT.out.below HD5.out h2) ((HRk.out.below HE5.out).more HE5.out.size) (HNa.out ()) (by omega)).mono ?_
    rintro e' w6 ⟨v6, rfl, hh, hB⟩
    rw [HX.out ()] at hh
    have HE6 := Lib.hid (HE5.out.trans (hB.mono HE5.out.size)); have HD6 := Lib.hid (HD5.out.trans (hB.mono HD5.out.size)); have HH6_6 := Lib.hid (hh.lower (lo' := w4.heap.size) HE5.out.size)
    have HH5_6 := Lib.hid (HH5_5.out.below hB)
    clear hh hB
    obtain ⟨A6, n6, c6, rfl, -⟩ := id HH6_6.out
    go_wp2_with fail
    refine (shake128_told (some ⟨gk, 0, none⟩) a na capk x w6 (HT.out.below HD6.out h2) ((HRk.out.below HE6.out).more HE6.out.size) (HNa.out ()) (by omega)).mono ?_
    rintro e' w7 ⟨v7, rfl, hh, hB⟩
    rw [HL.out ()] at hh
    have HE7 := Lib.hid (HE6.out.trans (hB.mono HE6.out.size)); have HD7 := Lib.hid (HD6.out.trans (hB.mono HD6.out.size)); have HH7_7 := Lib.hid (hh.lower (lo' := w4.heap.size) HE6.out.size)
    have HH5_7 := Lib.hid (HH5_6.out.below hB)
    have HH6_7 := Lib.hid (HH6_6.out.below hB)
    clear hh hB
    obtain ⟨A7, n7, c7, rfl, -⟩ := id HH7_7.out
    go_wp2_with fail
    refine (shake256_told (some ⟨gk, 0, none⟩) a na capk x w7 (HT.out.below HD7.out h2) ((HRk.out.below HE7.out).more HE7.out.size) (HNa.out ()) (by omega)).mono ?_
    rintro e' w8 ⟨v8, rfl, hh, hB⟩
    rw [HU.out ()] at hh
    have HE8 := Lib.hid (HE7.out.trans (hB.mono HE7.out.size)); have HD8 := Lib.hid (HD7.out.trans (hB.mono HD7.out.size)); have HH8_8 := Lib.hid (hh.lower (lo' := w4.heap.size) HE7.out.size)
    have HH5_8 := Lib.hid (HH5_7.out.below hB)
    have HH6_8 := Lib.hid (HH6_7.out.below hB)
    have HH7_8 := Lib.hid (HH7_7.out.below hB)
    clear hh hB
    obtain ⟨A8, n8, c8, rfl, -⟩ := id HH8_8.out
    have HBK := Lib.hid (bytes_of_own (own_below HO4.out HE8.out (Nat.le_refl _)))
    clear HRk HO4 HE5 HE6 HE7 HE8 HD5 HD6 HD7 HH5_5 HH5_6 HH5_7 HH6_6 HH6_7 HH7_7
    have hlk : gk < w4.heap.size := by omega
    have hlw : w.heap.size ≤ gk := by omega
    obtain ⟨lo, hlo⟩ : ∃ lo, w4.heap.size = lo := ⟨_, rfl⟩
    rw [hlo] at HH5_8 HH6_8 HH7_8 HH8_8 hlk
    clear hlo
    go_wp2_with fail
    go_loopw [11] (fun i W => ∃ k : Nat, k ≤ na ∧ i = .int .i64 k ∧ Hid (Bytes W gk na) ∧ Hid (Held lo (.slice A5 n5 c5) M W) ∧ Hid (Held lo (.slice A6 n6 c6) X W) ∧ Hid (Held lo (.slice A7 n7 c7) L W) ∧ Hid (Held lo (.slice A8 n8 c8) U W) ∧ Hid (Below w.heap.size w W)) (fun i _ => na - (intOf i).toNat)
    case atStart => exact ⟨0, by omega, rfl, HBK, HH5_8, HH6_8, HH7_8, HH8_8, HD8⟩
    case round =>
      obtain ⟨k, hk, rfl, HBK2, HP5, HP6, HP7, HP8, HDP⟩ := hrel
      by_cases hkn : k < na
      · obtain ⟨z, c0⟩ := HBK2.out.cell k hkn
        have f0 := HBK2.out.frozen k
        have yk : (k : Int) < (na : Int) := by omega
        go_wp2
        go_roundw
        case rel =>
          have hset := fun u => only_set (World.grownBy.refl wr (some gk)) (p := ⟨gk, k, none⟩) (.inl rfl) u
          exact ⟨k + 1, by omega, by go_num, Lib.hid (HBK2.out.set k _), Lib.hid (HP5.out.grown (hset _) hlk), Lib.hid (HP6.out.grown (hset _) hlk), Lib.hid (HP7.out.grown (hset _) hlk), Lib.hid (HP8.out.grown (hset _) hlk), Lib.hid (HDP.out.setCell hlw _)⟩
        case measure => simp [intOf]; omega
      · have yk : ¬ (k : Int) < (na : Int) := by omega
        go_wp2_with fail
        refine region_calm ?_
        refine wp_region_any (by kernel_rfl) ?_
        change wpAny _ _ _ _ _ _ _ (World.drew _)
        replace HP5 := Lib.hid HP5.out.drew; replace HP6 := Lib.hid HP6.out.drew; replace HP7 := Lib.hid HP7.out.drew; replace HP8 := Lib.hid HP8.out.drew; replace HDP := Lib.hid HDP.out.drew
        generalize World.drew _ = wd at *
        have hsd := HDP.out.size
        have hwd : 3 ≤ wd.heap.size := by omega
        have HS0 : Hid (∀ w', w' = wd → (convert 22 9 (.slice A5 n5 c5)).run Tryd.prog w' = .ok (.string (txt M)) w' ∧ (convert 22 9 (.slice A6 n6 c6)).run Tryd.prog w' = .ok (.string (txt X)) w' ∧ (convert 22 9 (.slice A7 n7 c7)).run Tryd.prog w' = .ok (.string (txt L)) w' ∧ (convert 22 9 (.slice A8 n8 c8)).run Tryd.prog w' = .ok (.string (txt U)) w') := Lib.hid (by rintro w' rfl; exact ⟨HP5.out.conv, HP6.out.conv, HP7.out.conv, HP8.out.conv⟩)
        refine wpAny_of_held (S := fun w' => (convert 22 9 (.slice A5 n5 c5)).run Tryd.prog w' = .ok (.string (txt M)) w' ∧ (convert 22 9 (.slice A6 n6 c6)).run Tryd.prog w' = .ok (.string (txt X)) w' ∧ (convert 22 9 (.slice A7 n7 c7)).run Tryd.prog w' = .ok (.string (txt L)) w' ∧ (convert 22 9 (.slice A8 n8 c8)).run Tryd.prog w' = .ok (.string (txt U)) w') _ _ _ _ ?_
        refine wpAnyH_take (i := 0) (v := ?v0n33) rfl (by kernel_rfl) (by kernel_rfl) (by kernel_rfl) (fun _ _ _ h => h) (Or.inl ⟨by rfl, ?y0n33⟩) (HS0.out _ rfl) ?r0n33
        case y0n33 => (intro w' hSw; clear hSw; go_simp; try with_reducible rfl)
        simp only [List.getElem_toArray, List.getElem_cons_succ, List.getElem_cons_zero, Act.put, List.setIfInBounds_toArray, List.set_cons_zero, List.set_cons_succ]
        refine wpAnyH_take (i := 1) (v := ?v1n34) rfl (by kernel_rfl) (by kernel_rfl) (by kernel_rfl) (fun _ _ _ h => h) (Or.inl ⟨by rfl, ?y1n34⟩) (HS0.out _ rfl) ?r1n34
        case y1n34 => (intro w' hSw; clear hSw; go_simp; try with_reducible rfl)
        simp only [List.getElem_toArray, List.getElem_cons_succ, List.getElem_cons_zero, Act.put, List.setIfInBounds_toArray, List.set_cons_zero, List.set_cons_succ]
        refine wpAnyH_take (i := 2) (v := ?v2n35) rfl (by kernel_rfl) (by kernel_rfl) (by kernel_rfl) (fun _ _ _ h => h) (Or.inl ⟨by rfl, ?y2n35⟩) (HS0.out _ rfl) ?r2n35
        case y2n35 => (intro w' hSw; clear hSw; go_simp; try with_reducible rfl)
        simp only [List.getElem_toArray, List.getElem_cons_succ, List.getElem_cons_zero, Act.put, List.setIfInBounds_toArray, List.set_cons_zero, List.set_cons_succ]
        refine wpAnyH_take (i := 3) (v := ?v3n36) rfl (by kernel_rfl) (by kernel_rfl) (by kernel_rfl) (fun _ _ _ h => h) (Or.inl ⟨by rfl, ?y3n36⟩) (HS0.out _ rfl) ?r3n36
        case y3n36 => (intro w' hSw; have s1 := hSw.1; (try dsimp only at s1); clear hSw; go_simp; try with_reducible rfl)
        simp only [List.getElem_toArray, List.getElem_cons_succ, List.getElem_cons_zero, Act.put, List.setIfInBounds_toArray, List.set_cons_zero, List.set_cons_succ]
        refine wpAnyH_take (i := 4) (v := ?v4n37) rfl (by kernel_rfl) (by kernel_rfl) (by kernel_rfl) (fun _ _ _ h => h) (Or.inl ⟨by rfl, ?y4n37⟩) (HS0.out _ rfl) ?r4n37
        case y4n37 => (intro w' hSw; clear hSw; go_simp; try with_reducible rfl)
        simp only [List.getElem_toArray, List.getElem_cons_succ, List.getElem_cons_zero, Act.put, List.setIfInBounds_toArray, List.set_cons_zero, List.set_cons_succ]
        refine wpAnyH_ready (rs := [5]) (by kernel_rfl) (by simp) ?_
        refine AllReadyH.cons rfl (fun K hK => ?_) AllReadyH.nil
        simp only [List.getElem_toArray, List.getElem_cons_succ, List.getElem_cons_zero]
        go_simp
        refine (rsum256_told A a na ca wd hwd ((HRa.out.below HDP.out).more HDP.out.size) (HNa.out ()) (by omega)).mono ?_
        rintro e' wq0 ⟨v20, rfl, hh, hB⟩
        rw [HM.out ()] at hh
        have h3q0 : 3 ≤ wq0.heap.size := Nat.le_trans hwd hB.size
        have HT20 := Lib.hid hh
        have HT5 := Lib.hid ((HP5.out).below hB)
        have HT6 := Lib.hid ((HP6.out).below hB)
        have HT7 := Lib.hid ((HP7.out).below hB)
        have HT8 := Lib.hid ((HP8.out).below hB)
        have HDN0 := Lib.hid (HDP.out.trans (hB.mono HDP.out.size))
        clear hh hB
        obtain ⟨A20, n20, c20, rfl, -⟩ := id HT20.out
        refine hK.out _ _ ⟨HT5.out.conv, HT6.out.conv, HT7.out.conv, HT8.out.conv⟩ (fun _ => ?_)
        clear hK K
        try simp only [List.getElem_toArray, List.getElem_cons_succ, List.getElem_cons_zero, Act.put, List.setIfInBounds_toArray, List.set_cons_zero, List.set_cons_succ]
        refine wpAnyH_more (S' := fun w' => (convert 22 9 (.slice A20 n20 c20)).run Tryd.prog w' = .ok (.string (txt M)) w' ∧ (convert 22 9 (.slice A5 n5 c5)).run Tryd.prog w' = .ok (.string (txt M)) w' ∧ (convert 22 9 (.slice A6 n6 c6)).run Tryd.prog w' = .ok (.string (txt X)) w' ∧ (convert 22 9 (.slice A7 n7 c7)).run Tryd.prog w' = .ok (.string (txt L)) w' ∧ (convert 22 9 (.slice A8 n8 c8)).run Tryd.prog w' = .ok (.string (txt U)) w') (fun _ h => h.2) _ _ _ _ ?_
        have HR0_20 := HT20
        have HR0_5 := HT5
        have HR0_6 := HT6
        have HR0_7 := HT7
        have HR0_8 := HT8
        clear HT20 HT5 HT6 HT7 HT8
        have HS1 : Hid (∀ w', w' = wq0 → (convert 22 9 (.slice A20 n20 c20)).run Tryd.prog w' = .ok (.string (txt M)) w' ∧ (convert 22 9 (.slice A5 n5 c5)).run Tryd.prog w' = .ok (.string (txt M)) w' ∧ (convert 22 9 (.slice A6 n6 c6)).run Tryd.prog w' = .ok (.string (txt X)) w' ∧ (convert 22 9 (.slice A7 n7 c7)).run Tryd.prog w' = .ok (.string (txt L)) w' ∧ (convert 22 9 (.slice A8 n8 c8)).run Tryd.prog w' = .ok (.string (txt U)) w') := Lib.hid (by rintro w' rfl; exact ⟨HR0_20.out.conv, HR0_5.out.conv, HR0_6.out.conv, HR0_7.out.conv, HR0_8.out.conv⟩)
        refine wpAnyH_take (i := 6) (v := ?v6n38) rfl (by kernel_rfl) (by kernel_rfl) (by kernel_rfl) (fun _ _ _ h => h) (Or.inl ⟨by rfl, ?y6n38⟩) (HS1.out _ rfl) ?r6n38
        case y6n38 => (intro w' hSw; have s1 := hSw.1; (try dsimp only at s1); clear hSw; go_simp; try with_reducible rfl)
        simp only [List.getElem_toArray, List.getElem_cons_succ, List.getElem_cons_zero, Act.put, List.setIfInBounds_toArray, List.set_cons_zero, List.set_cons_succ]
        refine wpAnyH_take (i := 7) (v := ?v7n39) rfl (by kernel_rfl) (by kernel_rfl) (by kernel_rfl) (fun _ _ _ h => h) (Or.inl ⟨by rfl, ?y7n39⟩) (HS1.out _ rfl) ?r7n39
        case y7n39 => (intro w' hSw; clear hSw; go_simp; try with_reducible rfl)
        simp only [List.getElem_toArray, List.getElem_cons_succ, List.getElem_cons_zero, Act.put, List.setIfInBounds_toArray, List.set_cons_zero, List.set_cons_succ]
        refine wpAnyH_take (i := 8) (v := ?v8n40) rfl (by kernel_rfl) (by kernel_rfl) (by kernel_rfl) (fun _ _ _ h => h) (Or.inl ⟨by rfl, ?y8n40⟩) (HS1.out _ rfl) ?r8n40
        case y8n40 => (intro w' hSw; clear hSw; go_simp; try with_reducible rfl)
        simp only [List.getElem_toArray, List.getElem_cons_succ, List.getElem_cons_zero, Act.put, List.setIfInBounds_toArray, List.set_cons_zero, List.set_cons_succ]
        refine wpAnyH_take (i := 9) (v := ?v9n41) rfl (by kernel_rfl) (by kernel_rfl) (by kernel_rfl) (fun _ _ _ h => h) (Or.inl ⟨by rfl, ?y9n41⟩) (HS1.out _ rfl) ?r9n41
        case y9n41 => (intro w' hSw; clear hSw; go_simp; try with_reducible rfl)
        simp only [List.getElem_toArray, List.getElem_cons_succ, List.getElem_cons_zero, Act.put, List.setIfInBounds_toArray, List.set_cons_zero, List.set_cons_succ]
        refine wpAnyH_take (i := 10) (v := ?v10n42) rfl (by kernel_rfl) (by kernel_rfl) (by kernel_rfl) (fun _ _ _ h => h) (Or.inl ⟨by rfl, ?y10n42⟩) (HS1.out _ rfl) ?r10n42
        case y10n42 => (intro w' hSw; clear hSw; go_simp; try with_reducible rfl)
        simp only [List.getElem_toArray, List.getElem_cons_succ, List.getElem_cons_zero, Act.put, List.setIfInBounds_toArray, List.set_cons_zero, List.set_cons_succ]
        refine wpAnyH_take (i := 11) (v := ?v11n43) rfl (by kernel_rfl) (by kernel_rfl) (by kernel_rfl) (fun _ _ _ h => h) (Or.inl ⟨by rfl, ?y11n43⟩) (HS1.out _ rfl) ?r11n43
        case y11n43 => (intro w' hSw; have s1 := hSw.2.2.1; (try dsimp only at s1); clear hSw; go_simp; try with_reducible rfl)
        simp only [List.getElem_toArray, List.getElem_cons_succ, List.getElem_cons_zero, Act.put, List.setIfInBounds_toArray, List.set_cons_zero, List.set_cons_succ]
        refine wpAnyH_take (i := 12) (v := ?v12n44) rfl (by kernel_rfl) (by kernel_rfl) (by kernel_rfl) (fun _ _ _ h => h) (Or.inl ⟨by rfl, ?y12n44⟩) (HS1.out _ rfl) ?r12n44
        case y12n44 => (intro w' hSw; clear hSw; go_simp; try with_reducible rfl)
        simp only [List.getElem_toArray, List.getElem_cons_succ, List.getElem_cons_zero, Act.put, List.setIfInBounds_toArray, List.set_cons_zero, List.set_cons_succ]
        refine wpAnyH_ready (rs := [13]) (by kernel_rfl) (by simp) ?_
        refine AllReadyH.cons rfl (fun K hK => ?_) AllReadyH.nil
        simp only [List.getElem_toArray, List.getElem_cons_succ, List.getElem_cons_zero]
        go_simp
        refine (rsum512_told A a na ca wq0 h3q0 ((HRa.out.below HDN0.out).more HDN0.out.size) (HNa.out ()) (by omega)).mono ?_
        rintro e' wq1 ⟨v21, rfl, hh, hB⟩
        rw [HX.out ()] at hh
        have h3q1 : 3 ≤ wq1.heap.size := Nat.le_trans h3q0 hB.size
        have HT21 := Lib.hid hh
        have HT20 := Lib.hid ((HR0_20.out).below hB)
        have HT5 := Lib.hid ((HR0_5.out).below hB)
        have HT6 := Lib.hid ((HR0_6.out).below hB)
        have HT7 := Lib.hid ((HR0_7.out).below hB)
        have HT8 := Lib.hid ((HR0_8.out).below hB)
        have HDN1 := Lib.hid (HDN0.out.trans (hB.mono HDN0.out.size))
        clear hh hB
        obtain ⟨A21, n21, c21, rfl, -⟩ := id HT21.out
        refine hK.out _ _ ⟨HT20.out.conv, HT5.out.conv, HT6.out.conv, HT7.out.conv, HT8.out.conv⟩ (fun _ => ?_)
        clear hK K
        try simp only [List.getElem_toArray, List.getElem_cons_succ, List.getElem_cons_zero, Act.put, List.setIfInBounds_toArray, List.set_cons_zero, List.set_cons_succ]
        refine wpAnyH_more (S' := fun w' => (convert 22 9 (.slice A21 n21 c21)).run Tryd.prog w' = .ok (.string (txt X)) w' ∧ (convert 22 9 (.slice A20 n20 c20)).run Tryd.prog w' = .ok (.string (txt M)) w' ∧ (convert 22 9 (.slice A5 n5 c5)).run Tryd.prog w' = .ok (.string (txt M)) w' ∧ (convert 22 9 (.slice A6 n6 c6)).run Tryd.prog w' = .ok (.string (txt X)) w' ∧ (convert 22 9 (.slice A7 n7 c7)).run Tryd.prog w' = .ok (.string (txt L)) w' ∧ (convert 22 9 (.slice A8 n8 c8)).run Tryd.prog w' = .ok (.string (txt U)) w') (fun _ h => h.2) _ _ _ _ ?_
        have HR1_21 := HT21
        have HR1_20 := HT20
        have HR1_5 := HT5
        have HR1_6 := HT6
        have HR1_7 := HT7
        have HR1_8 := HT8
        clear HT21 HT20 HT5 HT6 HT7 HT8
        have HS2 : Hid (∀ w', w' = wq1 → (convert 22 9 (.slice A21 n21 c21)).run Tryd.prog w' = .ok (.string (txt X)) w' ∧ (convert 22 9 (.slice A20 n20 c20)).run Tryd.prog w' = .ok (.string (txt M)) w' ∧ (convert 22 9 (.slice A5 n5 c5)).run Tryd.prog w' = .ok (.string (txt M)) w' ∧ (convert 22 9 (.slice A6 n6 c6)).run Tryd.prog w' = .ok (.string (txt X)) w' ∧ (convert 22 9 (.slice A7 n7 c7)).run Tryd.prog w' = .ok (.string (txt L)) w' ∧ (convert 22 9 (.slice A8 n8 c8)).run Tryd.prog w' = .ok (.string (txt U)) w') := Lib.hid (by rintro w' rfl; exact ⟨HR1_21.out.conv, HR1_20.out.conv, HR1_5.out.conv, HR1_6.out.conv, HR1_7.out.conv, HR1_8.out.conv⟩)
        refine wpAnyH_take (i := 14) (v := ?v14n45) rfl (by kernel_rfl) (by kernel_rfl) (by kernel_rfl) (fun _ _ _ h => h) (Or.inl ⟨by rfl, ?y14n45⟩) (HS2.out _ rfl) ?r14n45
        case y14n45 => (intro w' hSw; have s1 := hSw.1; (try dsimp only at s1); clear hSw; go_simp; try with_reducible rfl)
        simp only [List.getElem_toArray, List.getElem_cons_succ, List.getElem_cons_zero, Act.put, List.setIfInBounds_toArray, List.set_cons_zero, List.set_cons_succ]
        refine wpAnyH_take (i := 15) (v := ?v15n46) rfl (by kernel_rfl) (by kernel_rfl) (by kernel_rfl) (fun _ _ _ h => h) (Or.inl ⟨by rfl, ?y15n46⟩) (HS2.out _ rfl) ?r15n46
        case y15n46 => (intro w' hSw; clear hSw; go_simp; try with_reducible rfl)
        simp only [List.getElem_toArray, List.getElem_cons_succ, List.getElem_cons_zero, Act.put, List.setIfInBounds_toArray, List.set_cons_zero, List.set_cons_succ]
        refine wpAnyH_take (i := 16) (v := ?v16n47) rfl (by kernel_rfl) (by kernel_rfl) (by kernel_rfl) (fun _ _ _ h => h) (Or.inl ⟨by rfl, ?y16n47⟩) (HS2.out _ rfl) ?r16n47
        case y16n47 => (intro w' hSw; clear hSw; go_simp; try with_reducible rfl)
        simp only [List.getElem_toArray, List.getElem_cons_succ, List.getElem_cons_zero, Act.put, List.setIfInBounds_toArray, List.set_cons_zero, List.set_cons_succ]
        refine wpAnyH_take (i := 17) (v := ?v17n48) rfl (by kernel_rfl) (by kernel_rfl) (by kernel_rfl) (fun _ _ _ h => h) (Or.inl ⟨by rfl, ?y17n48⟩) (HS2.out _ rfl) ?r17n48
        case y17n48 => (intro w' hSw; clear hSw; go_simp; try with_reducible rfl)
        simp only [List.getElem_toArray, List.getElem_cons_succ, List.getElem_cons_zero, Act.put, List.setIfInBounds_toArray, List.set_cons_zero, List.set_cons_succ]
        refine wpAnyH_take (i := 18) (v := ?v18n49) rfl (by kernel_rfl) (by kernel_rfl) (by kernel_rfl) (fun _ _ _ h => h) (Or.inl ⟨by rfl, ?y18n49⟩) (HS2.out _ rfl) ?r18n49
        case y18n49 => (intro w' hSw; clear hSw; go_simp; try with_reducible rfl)
        simp only [List.getElem_toArray, List.getElem_cons_succ, List.getElem_cons_zero, Act.put, List.setIfInBounds_toArray, List.set_cons_zero, List.set_cons_succ]
        refine wpAnyH_take (i := 19) (v := ?v19n50) rfl (by kernel_rfl) (by kernel_rfl) (by kernel_rfl) (fun _ _ _ h => h) (Or.inl ⟨by rfl, ?y19n50⟩) (HS2.out _ rfl) ?r19n50
        case y19n50 => (intro w' hSw; have s1 := hSw.2.2.2.2.1; (try dsimp only at s1); clear hSw; go_simp; try with_reducible rfl)
        simp only [List.getElem_toArray, List.getElem_cons_succ, List.getElem_cons_zero, Act.put, List.setIfInBounds_toArray, List.set_cons_zero, List.set_cons_succ]
        refine wpAnyH_take (i := 20) (v := ?v20n51) rfl (by kernel_rfl) (by kernel_rfl) (by kernel_rfl) (fun _ _ _ h => h) (Or.inl ⟨by rfl, ?y20n51⟩) (HS2.out _ rfl) ?r20n51
        case y20n51 => (intro w' hSw; clear hSw; go_simp; try with_reducible rfl)
        simp only [List.getElem_toArray, List.getElem_cons_succ, List.getElem_cons_zero, Act.put, List.setIfInBounds_toArray, List.set_cons_zero, List.set_cons_succ]
        refine wpAnyH_take (i := 21) (v := ?v21n52) rfl (by kernel_rfl) (by kernel_rfl) (by kernel_rfl) (fun _ _ _ h => h) (Or.inl ⟨by rfl, ?y21n52⟩) (HS2.out _ rfl) ?r21n52
        case y21n52 => (intro w' hSw; clear hSw; go_simp; try with_reducible rfl)
        simp only [List.getElem_toArray, List.getElem_cons_succ, List.getElem_cons_zero, Act.put, List.setIfInBounds_toArray, List.set_cons_zero, List.set_cons_succ]
        refine wpAnyH_ready (rs := [22]) (by kernel_rfl) (by simp) ?_
        refine AllReadyH.cons rfl (fun K hK => ?_) AllReadyH.nil
        simp only [List.getElem_toArray, List.getElem_cons_succ, List.getElem_cons_zero]
        go_simp
        refine (rshake128_told A a na ca x wq1 h3q1 ((HRa.out.below HDN1.out).more HDN1.out.size) (HNa.out ()) (by omega)).mono ?_
        rintro e' wq2 ⟨v22, rfl, hh, hB⟩
        rw [HL.out ()] at hh
        have h3q2 : 3 ≤ wq2.heap.size := Nat.le_trans h3q1 hB.size
        have HT22 := Lib.hid hh
        have HT21 := Lib.hid ((HR1_21.out).below hB)
        have HT20 := Lib.hid ((HR1_20.out).below hB)
        have HT5 := Lib.hid ((HR1_5.out).below hB)
        have HT6 := Lib.hid ((HR1_6.out).below hB)
        have HT7 := Lib.hid ((HR1_7.out).below hB)
        have HT8 := Lib.hid ((HR1_8.out).below hB)
        have HDN2 := Lib.hid (HDN1.out.trans (hB.mono HDN1.out.size))
        clear hh hB
        obtain ⟨A22, n22, c22, rfl, -⟩ := id HT22.out
        refine hK.out _ _ ⟨HT21.out.conv, HT20.out.conv, HT5.out.conv, HT6.out.conv, HT7.out.conv, HT8.out.conv⟩ (fun _ => ?_)
        clear hK K
        try simp only [List.getElem_toArray, List.getElem_cons_succ, List.getElem_cons_zero, Act.put, List.setIfInBounds_toArray, List.set_cons_zero, List.set_cons_succ]
        refine wpAnyH_more (S' := fun w' => (convert 22 9 (.slice A22 n22 c22)).run Tryd.prog w' = .ok (.string (txt L)) w' ∧ (convert 22 9 (.slice A21 n21 c21)).run Tryd.prog w' = .ok (.string (txt X)) w' ∧ (convert 22 9 (.slice A20 n20 c20)).run Tryd.prog w' = .ok (.string (txt M)) w' ∧ (convert 22 9 (.slice A5 n5 c5)).run Tryd.prog w' = .ok (.string (txt M)) w' ∧ (convert 22 9 (.slice A6 n6 c6)).run Tryd.prog w' = .ok (.string (txt X)) w' ∧ (convert 22 9 (.slice A7 n7 c7)).run Tryd.prog w' = .ok (.string (txt L)) w' ∧ (convert 22 9 (.slice A8 n8 c8)).run Tryd.prog w' = .ok (.string (txt U)) w') (fun _ h => h.2) _ _ _ _ ?_
        have HR2_22 := HT22
        have HR2_21 := HT21
        have HR2_20 := HT20
        have HR2_5 := HT5
        have HR2_6 := HT6
        have HR2_7 := HT7
        have HR2_8 := HT8
        clear HT22 HT21 HT20 HT5 HT6 HT7 HT8
        have HS3 : Hid (∀ w', w' = wq2 → (convert 22 9 (.slice A22 n22 c22)).run Tryd.prog w' = .ok (.string (txt L)) w' ∧ (convert 22 9 (.slice A21 n21 c21)).run Tryd.prog w' = .ok (.string (txt X)) w' ∧ (convert 22 9 (.slice A20 n20 c20)).run Tryd.prog w' = .ok (.string (txt M)) w' ∧ (convert 22 9 (.slice A5 n5 c5)).run Tryd.prog w' = .ok (.string (txt M)) w' ∧ (convert 22 9 (.slice A6 n6 c6)).run Tryd.prog w' = .ok (.string (txt X)) w' ∧ (convert 22 9 (.slice A7 n7 c7)).run Tryd.prog w' = .ok (.string (txt L)) w' ∧ (convert 22 9 (.slice A8 n8 c8)).run Tryd.prog w' = .ok (.string (txt U)) w') := Lib.hid (by rintro w' rfl; exact ⟨HR2_22.out.conv, HR2_21.out.conv, HR2_20.out.conv, HR2_5.out.conv, HR2_6.out.conv, HR2_7.out.conv, HR2_8.out.conv⟩)
        refine wpAnyH_take (i := 23) (v := ?v23n53) rfl (by kernel_rfl) (by kernel_rfl) (by kernel_rfl) (fun _ _ _ h => h) (Or.inl ⟨by rfl, ?y23n53⟩) (HS3.out _ rfl) ?r23n53
        case y23n53 => (intro w' hSw; have s1 := hSw.1; (try dsimp only at s1); clear hSw; go_simp; try with_reducible rfl)
        simp only [List.getElem_toArray, List.getElem_cons_succ, List.getElem_cons_zero, Act.put, List.setIfInBounds_toArray, List.set_cons_zero, List.set_cons_succ]
        refine wpAnyH_take (i := 24) (v := ?v24n54) rfl (by kernel_rfl) (by kernel_rfl) (by kernel_rfl) (fun _ _ _ h => h) (Or.inl ⟨by rfl, ?y24n54⟩) (HS3.out _ rfl) ?r24n54
        case y24n54 => (intro w' hSw; clear hSw; go_simp; try with_reducible rfl)
        simp only [List.getElem_toArray, List.getElem_cons_succ, List.getElem_cons_zero, Act.put, List.setIfInBounds_toArray, List.set_cons_zero, List.set_cons_succ]
        refine wpAnyH_take (i := 25) (v := ?v25n55) rfl (by kernel_rfl) (by kernel_rfl) (by kernel_rfl) (fun _ _ _ h => h) (Or.inl ⟨by rfl, ?y25n55⟩) (HS3.out _ rfl) ?r25n55
        case y25n55 => (intro w' hSw; clear hSw; go_simp; try with_reducible rfl)
        simp only [List.getElem_toArray, List.getElem_cons_succ, List.getElem_cons_zero, Act.put, List.setIfInBounds_toArray, List.set_cons_zero, List.set_cons_succ]
        refine wpAnyH_take (i := 26) (v := ?v26n56) rfl (by kernel_rfl) (by kernel_rfl) (by kernel_rfl) (fun _ _ _ h => h) (Or.inl ⟨by rfl, ?y26n56⟩) (HS3.out _ rfl) ?r26n56
        case y26n56 => (intro w' hSw; clear hSw; go_simp; try with_reducible rfl)
        simp only [List.getElem_toArray, List.getElem_cons_succ, List.getElem_cons_zero, Act.put, List.setIfInBounds_toArray, List.set_cons_zero, List.set_cons_succ]
        refine wpAnyH_take (i := 27) (v := ?v27n57) rfl (by kernel_rfl) (by kernel_rfl) (by kernel_rfl) (fun _ _ _ h => h) (Or.inl ⟨by rfl, ?y27n57⟩) (HS3.out _ rfl) ?r27n57
        case y27n57 => (intro w' hSw; clear hSw; go_simp; try with_reducible rfl)
        simp only [List.getElem_toArray, List.getElem_cons_succ, List.getElem_cons_zero, Act.put, List.setIfInBounds_toArray, List.set_cons_zero, List.set_cons_succ]
        refine wpAnyH_take (i := 28) (v := ?v28n58) rfl (by kernel_rfl) (by kernel_rfl) (by kernel_rfl) (fun _ _ _ h => h) (Or.inl ⟨by rfl, ?y28n58⟩) (HS3.out _ rfl) ?r28n58
        case y28n58 => (intro w' hSw; have s1 := hSw.2.2.2.2.2.2; (try dsimp only at s1); clear hSw; go_simp; try with_reducible rfl)
        simp only [List.getElem_toArray, List.getElem_cons_succ, List.getElem_cons_zero, Act.put, List.setIfInBounds_toArray, List.set_cons_zero, List.set_cons_succ]
        refine wpAnyH_take (i := 29) (v := ?v29n59) rfl (by kernel_rfl) (by kernel_rfl) (by kernel_rfl) (fun _ _ _ h => h) (Or.inl ⟨by rfl, ?y29n59⟩) (HS3.out _ rfl) ?r29n59
        case y29n59 => (intro w' hSw; clear hSw; go_simp; try with_reducible rfl)
        simp only [List.getElem_toArray, List.getElem_cons_succ, List.getElem_cons_zero, Act.put, List.setIfInBounds_toArray, List.set_cons_zero, List.set_cons_succ]
        refine wpAnyH_take (i := 30) (v := ?v30n60) rfl (by kernel_rfl) (by kernel_rfl) (by kernel_rfl) (fun _ _ _ h => h) (Or.inl ⟨by rfl, ?y30n60⟩) (HS3.out _ rfl) ?r30n60
        case y30n60 => (intro w' hSw; clear hSw; go_simp; try with_reducible rfl)
        simp only [List.getElem_toArray, List.getElem_cons_succ, List.getElem_cons_zero, Act.put, List.setIfInBounds_toArray, List.set_cons_zero, List.set_cons_succ]
        refine wpAnyH_ready (rs := [31]) (by kernel_rfl) (by simp) ?_
        refine AllReadyH.cons rfl (fun K hK => ?_) AllReadyH.nil
        simp only [List.getElem_toArray, List.getElem_cons_succ, List.getElem_cons_zero]
        go_simp
        refine (rshake256_told A a na ca x wq2 h3q2 ((HRa.out.below HDN2.out).more HDN2.out.size) (HNa.out ()) (by omega)).mono ?_
        rintro e' wq3 ⟨v23, rfl, hh, hB⟩
        rw [HU.out ()] at hh
        have h3q3 : 3 ≤ wq3.heap.size := Nat.le_trans h3q2 hB.size
        have HT23 := Lib.hid hh
        have HT22 := Lib.hid ((HR2_22.out).below hB)
        have HT21 := Lib.hid ((HR2_21.out).below hB)
        have HT20 := Lib.hid ((HR2_20.out).below hB)
        have HT5 := Lib.hid ((HR2_5.out).below hB)
        have HT6 := Lib.hid ((HR2_6.out).below hB)
        have HT7 := Lib.hid ((HR2_7.out).below hB)
        have HT8 := Lib.hid ((HR2_8.out).below hB)
        have HDN3 := Lib.hid (HDN2.out.trans (hB.mono HDN2.out.size))
        clear hh hB
        obtain ⟨A23, n23, c23, rfl, -⟩ := id HT23.out
        refine hK.out _ _ ⟨HT22.out.conv, HT21.out.conv, HT20.out.conv, HT5.out.conv, HT6.out.conv, HT7.out.conv, HT8.out.conv⟩ (fun _ => ?_)
        clear hK K
        try simp only [List.getElem_toArray, List.getElem_cons_succ, List.getElem_cons_zero, Act.put, List.setIfInBounds_toArray, List.set_cons_zero, List.set_cons_succ]
        refine wpAnyH_more (S' := fun w' => (convert 22 9 (.slice A23 n23 c23)).run Tryd.prog w' = .ok (.string (txt U)) w' ∧ (convert 22 9 (.slice A22 n22 c22)).run Tryd.prog w' = .ok (.string (txt L)) w' ∧ (convert 22 9 (.slice A21 n21 c21)).run Tryd.prog w' = .ok (.string (txt X)) w' ∧ (convert 22 9 (.slice A20 n20 c20)).run Tryd.prog w' = .ok (.string (txt M)) w' ∧ (convert 22 9 (.slice A5 n5 c5)).run Tryd.prog w' = .ok (.string (txt M)) w' ∧ (convert 22 9 (.slice A6 n6 c6)).run Tryd.prog w' = .ok (.string (txt X)) w' ∧ (convert 22 9 (.slice A7 n7 c7)).run Tryd.prog w' = .ok (.string (txt L)) w' ∧ (convert 22 9 (.slice A8 n8 c8)).run Tryd.prog w' = .ok (.string (txt U)) w') (fun _ h => h.2) _ _ _ _ ?_
        have HR3_23 := HT23
        have HR3_22 := HT22
        have HR3_21 := HT21
        have HR3_20 := HT20
        have HR3_5 := HT5
        have HR3_6 := HT6
        have HR3_7 := HT7
        have HR3_8 := HT8
        clear HT23 HT22 HT21 HT20 HT5 HT6 HT7 HT8
        have HS4 : Hid (∀ w', w' = wq3 → (convert 22 9 (.slice A23 n23 c23)).run Tryd.prog w' = .ok (.string (txt U)) w' ∧ (convert 22 9 (.slice A22 n22 c22)).run Tryd.prog w' = .ok (.string (txt L)) w' ∧ (convert 22 9 (.slice A21 n21 c21)).run Tryd.prog w' = .ok (.string (txt X)) w' ∧ (convert 22 9 (.slice A20 n20 c20)).run Tryd.prog w' = .ok (.string (txt M)) w' ∧ (convert 22 9 (.slice A5 n5 c5)).run Tryd.prog w' = .ok (.string (txt M)) w' ∧ (convert 22 9 (.slice A6 n6 c6)).run Tryd.prog w' = .ok (.string (txt X)) w' ∧ (convert 22 9 (.slice A7 n7 c7)).run Tryd.prog w' = .ok (.string (txt L)) w' ∧ (convert 22 9 (.slice A8 n8 c8)).run Tryd.prog w' = .ok (.string (txt U)) w') := Lib.hid (by rintro w' rfl; exact ⟨HR3_23.out.conv, HR3_22.out.conv, HR3_21.out.conv, HR3_20.out.conv, HR3_5.out.conv, HR3_6.out.conv, HR3_7.out.conv, HR3_8.out.conv⟩)
        refine wpAnyH_take (i := 32) (v := ?v32n61) rfl (by kernel_rfl) (by kernel_rfl) (by kernel_rfl) (fun _ _ _ h => h) (Or.inl ⟨by rfl, ?y32n61⟩) (HS4.out _ rfl) ?r32n61
        case y32n61 => (intro w' hSw; have s1 := hSw.1; (try dsimp only at s1); clear hSw; go_simp; try with_reducible rfl)
        simp only [List.getElem_toArray, List.getElem_cons_succ, List.getElem_cons_zero, Act.put, List.setIfInBounds_toArray, List.set_cons_zero, List.set_cons_succ]
        refine wpAnyH_take (i := 33) (v := ?v33n62) rfl (by kernel_rfl) (by kernel_rfl) (by kernel_rfl) (fun _ _ _ h => h) (Or.inl ⟨by rfl, ?y33n62⟩) (HS4.out _ rfl) ?r33n62
        case y33n62 => (intro w' hSw; clear hSw; go_simp; try with_reducible rfl)
        simp only [List.getElem_toArray, List.getElem_cons_succ, List.getElem_cons_zero, Act.put, List.setIfInBounds_toArray, List.set_cons_zero, List.set_cons_succ]
        refine wpAnyH_take (i := 34) (v := ?v34n63) rfl (by kernel_rfl) (by kernel_rfl) (by kernel_rfl) (fun _ _ _ h => h) (Or.inl ⟨by rfl, ?y34n63⟩) (HS4.out _ rfl) ?r34n63
        case y34n63 => (intro w' hSw; clear hSw; go_simp; try with_reducible rfl)
        simp only [List.getElem_toArray, List.getElem_cons_succ, List.getElem_cons_zero, Act.put, List.setIfInBounds_toArray, List.set_cons_zero, List.set_cons_succ]
        refine wpAnyH_take (i := 35) (v := ?v35n64) rfl (by kernel_rfl) (by kernel_rfl) (by kernel_rfl) (fun _ _ _ h => h) (Or.inl ⟨by rfl, ?y35n64⟩) (HS4.out _ rfl) ?r35n64
        case y35n64 => (intro w' hSw; clear hSw; go_simp; try with_reducible rfl)
        simp only [List.getElem_toArray, List.getElem_cons_succ, List.getElem_cons_zero, Act.put, List.setIfInBounds_toArray, List.set_cons_zero, List.set_cons_succ]
        refine wpAnyH_done (by kernel_rfl) ?_ _
        change Exit.then _ _ Exit.normal _ _
        go_wp2
        go_ret
        exact ⟨rfl, HDN3.out⟩

set_option maxHeartbeats 1000000 in
theorem sums_great (A : Option Addr) (na ca : Nat) (x : Int) (w : World) (hT : Tables w) (h : 5000 < na ∨ (3000 < x ∧ x ≤ 65536)) :
    Calls Tryd.prog 3 #[.slice A na ca, .int .i64 x] w fun e w' => e = .returned (.bool true) ∧ Below w.heap.size w w' := by
  have HT := Lib.hid hT; clear hT
  go_enter Tryd.func3, Tryd.ntmps3
  go_wp2_with fail
  refine (head_any _ HT.out).mono ?_
  rintro e' w1 ⟨rfl, hB1⟩
  have HB1 := Lib.hid hB1; clear hB1
  by_cases ha : 5000 < na
  · go_wp2_with fail
    refine (great_yes _ _ _ _ ha).mono ?_
    rintro e' w2 ⟨rfl, rfl⟩
    go_wp2
    go_ret
    exact ⟨rfl, HB1.out⟩
  · obtain ⟨y1, y2⟩ : 3000 < x ∧ x ≤ 65536 := by omega
    go_wp2_with fail
    refine (great_no _ _ _ _ (by omega)).mono ?_
    rintro e' w2 ⟨rfl, rfl⟩
    go_wp2
    go_ret
    exact ⟨rfl, HB1.out⟩
theorem keccakSums_walk (a : Option Addr) (len cap : Nat) (zs : List Int) (x : Int) (W : World) (hT : Tables W) (h0 : IsRow .u8 W a len cap zs) (w1 : (Lit.int .i64 x).wf = true) :
    Calls Tryd.prog 3 #[.slice a len cap, .int .i64 x] W fun e w' => e = .returned (.bool true) ∧ Below W.heap.size W w' := by
  obtain ⟨hr, hl, hm⟩ := rd_of_row h0
  by_cases h : 5000 < len ∨ (3000 < x ∧ x ≤ 65536)
  · exact sums_great a len cap x W hT h
  · exact sums_walk a (bytesOf zs len) len cap x W hT hr hl (fun e => by
      rcases h0 with ⟨_, _, h3, _⟩ | ⟨y, h1, _⟩
      · exact h3
      · rw [e] at h1; cases h1) (by omega) (by omega)
end Go.Proofs.YtocjdklieljelaaDoor.Kec
