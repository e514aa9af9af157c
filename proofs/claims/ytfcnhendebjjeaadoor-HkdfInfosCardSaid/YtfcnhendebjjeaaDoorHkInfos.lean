/- Walks: HkdfInfos. -/
import Derived.Test.YtfcnhendebjjeaaDoorHkInfoPlain
import Derived.IntWalk
import Derived.Deep.RegionHeld3
namespace Go.Proofs.YtfcnhendebjjeaaDoor.Sha
set_option linter.all false
open Go.RowKit Iter
attribute [local go_sem ↓] Go.wp_at_zero Go.wp_at_succ

set_option maxHeartbeats 8000000 in
set_option maxRecDepth 100000 in
theorem infos_walk (s t : ByteArray) (A A3 A4 : Option Addr) (a x y : List Nat) (na nx ny ca cx cy N M : Nat) (w : World) (hT : Tables w) (hRa : Rd w w.heap.size A a) (hRx : Rd w w.heap.size A3 x) (hRy : Rd w w.heap.size A4 y) (hna : a.length = na) (hnx : x.length = nx) (hny : y.length = ny)
    (hla : na ≤ ca) (hxa : ca ≤ 9223372036854775807) (hcx : A3 = none → cx = 0) (hcy : A4 = none → cy = 0) (hma : na ≤ 17000) (hs : s.size ≤ 40) (ht : t.size ≤ 40) (hmx : nx ≤ 16000) (hmy : ny ≤ 16000) (hN : N < 256) (hM : M < 256) :
    Calls Tryd.prog 7 #[.slice A na ca, .string s, .string t, .slice A3 nx cx, .slice A4 ny cy, .int .u8 N, .int .u8 M] w fun e w' => e = .returned (.bool true) ∧ Below w.heap.size w w' := by
  have h2 := hT.lt
  have HT := Lib.hid hT; have HRa := Lib.hid hRa; have HRx := Lib.hid hRx; have HRy := Lib.hid hRy; have HNa := Lib.hid (fun _ : Unit => hna); have HNx := Lib.hid (fun _ : Unit => hnx); have HNy := Lib.hid (fun _ : Unit => hny); have HCx := Lib.hid hcx; have HCy := Lib.hid hcy
  clear hT hRa hRx hRy hna hnx hny hcx hcy
  have y1 : ¬ (40 : Int) < (s.size : Int) := by omega
  have y2 : ¬ (40 : Int) < (t.size : Int) := by omega
  have y3 : ¬ (16000 : Int) < (nx : Int) := by omega
  have y4 : ¬ (16000 : Int) < (ny : Int) := by omega
  have x1 : IntKind.i64.wrap (N : Int) = (N : Int) := by rw [IntKind.wrap_i64]; omega
  have x2 : IntKind.i64.wrap (M : Int) = (M : Int) := by rw [IntKind.wrap_i64]; omega
  go_enter Tryd.func7, Tryd.ntmps7
  go_wp2_with fail
  refine (head_any _ HT.out).mono ?_
  rintro e' w1 ⟨rfl, hB1⟩
  have HB1 := Lib.hid hB1; clear hB1
  go_wp2_with fail
  refine (great_no _ _ _ _ hma).mono ?_
  rintro e' w2 ⟨rfl, rfl⟩
  go_wp2_with fail
  refine (rinfo_any s A3 x nx cx N w1 ((HRx.out.below HB1.out).more HB1.out.size) (HNx.out ()) HCx.out (by omega) hs hmx).mono ?_
  rintro e' w2 ⟨h1, n1, c1, rfl, hl1, hown1, hB2⟩
  have hl1' : n1 ≤ 17000 := by rw [hl1, infoL_len, strL_len, HNx.out ()]; have := lenB_len nx; omega
  have hcp1 := own_cap hown1
  unfold maxLen at hcp1
  have HL1 := Lib.hid (fun _ : Unit => hl1.symm); clear hl1
  have HIx := Lib.hid (infoL_lt (n := N) (strL_lt s) HRx.out.1 (by rw [strL_len]; exact hs))
  obtain ⟨I, hI⟩ : ∃ I, infoL (strL s) x N = I := ⟨_, rfl⟩
  rw [hI] at hown1 HL1 HIx
  have HI := Lib.hid (fun _ : Unit => hI); clear hI
  have HO1 := Lib.hid hown1; have HB2 := Lib.hid (HB1.out.trans (hB2.mono HB1.out.size)); clear hown1 hB2
  go_wp2_with fail
  refine (rinfo_any t A4 y ny cy M w2 ((HRy.out.below HB2.out).more HB2.out.size) (HNy.out ()) HCy.out (by omega) ht hmy).mono ?_
  rintro e' w3 ⟨h2', n2, c2, rfl, hl2, hown2, hB3⟩
  have HIy := Lib.hid (infoL_lt (n := M) (strL_lt t) HRy.out.1 (by rw [strL_len]; exact ht))
  obtain ⟨J, hJ⟩ : ∃ J, infoL (strL t) y M = J := ⟨_, rfl⟩
  rw [hJ] at hown2 hl2 HIy
  have HJ := Lib.hid (fun _ : Unit => hJ); clear hJ hl2
  have HO2 := Lib.hid hown2; have HO12 := Lib.hid (own_below HO1.out hB3 (Nat.le_refl _)); have HB3 := Lib.hid (HB2.out.trans (hB3.mono HB2.out.size)); clear hown2 hB3 HO1
  have HEQ : Hid (Unit → (txt I = txt J ↔ (s = t ∧ txt x = txt y) ∧ N = M)) := Lib.hid fun _ => by
    rw [txt_inj HIx.out HIy.out, ← HI.out (), ← HJ.out (), infoL_inj (by rw [HNx.out ()]; exact hmx) (by rw [HNy.out ()]; exact hmy) hN hM, txt_inj HRx.out.1 HRy.out.1]
    exact ⟨fun ⟨⟨e1, e2⟩, e3⟩ => ⟨⟨strL_inj e1, e2⟩, e3⟩, fun ⟨⟨e1, e2⟩, e3⟩ => ⟨⟨by rw [e1], e2⟩, e3⟩⟩
  have hcx := conv_rd (c := cx) (HRx.out.below HB3.out) (HNx.out ())
  have hcy := conv_rd (c := cy) (HRy.out.below HB3.out) (HNy.out ())
  by_cases hst : s = t
  · subst hst
    by_cases hxy : txt x = txt y
    · rw [← hxy] at hcy
      by_cases hNM : N = M
      · subst hNM
        have hIJ : txt I = txt J := (HEQ.out ()).2 ⟨⟨rfl, hxy⟩, rfl⟩
        clear HEQ hxy
        go_wp2_with fail
        refine region_calm ?_
        refine wp_region_any (by kernel_rfl) ?_
        change wpAny _ _ _ _ _ _ _ (World.drew _)
        replace HO2 := Lib.hid HO2.out.drew; replace HO12 := Lib.hid HO12.out.drew; replace HB3 := Lib.hid HB3.out.drew
        clear hcx hcy
        generalize w3.drew = wd at *
        have hsd := HB3.out.size
        have hc1 := conv_own HO12.out
        have hc2 := conv_own HO2.out
        rw [← hIJ] at hc2
        have HS := Lib.hid (And.intro hc1 hc2)
        clear hc1 hc2
        refine wpAny_of_held (S := fun w' => (convert 22 9 (.slice (some ⟨h1, 0, none⟩) n1 c1)).run Tryd.prog w' = .ok (.string (txt I)) w' ∧ (convert 22 9 (.slice (some ⟨h2', 0, none⟩) n2 c2)).run Tryd.prog w' = .ok (.string (txt I)) w') _ _ _ _ ?_
        refine wpAnyH_take (i := 0) (v := ?v0n1) rfl (by kernel_rfl) (by kernel_rfl) (by kernel_rfl) (fun _ _ _ h => h) (Or.inl ⟨by rfl, ?y0n1⟩) HS.out ?r0n1
        case y0n1 => (intro w' hSw; clear hSw; go_simp; try with_reducible rfl)
        simp only [List.getElem_toArray, List.getElem_cons_succ, List.getElem_cons_zero, Act.put, List.setIfInBounds_toArray, List.set_cons_zero, List.set_cons_succ]
        refine wpAnyH_take (i := 1) (v := ?v1n2) rfl (by kernel_rfl) (by kernel_rfl) (by kernel_rfl) (fun _ _ _ h => h) (Or.inl ⟨by rfl, ?y1n2⟩) HS.out ?r1n2
        case y1n2 => (intro w' hSw; clear hSw; go_simp; try with_reducible rfl)
        simp only [List.getElem_toArray, List.getElem_cons_succ, List.getElem_cons_zero, Act.put, List.setIfInBounds_toArray, List.set_cons_zero, List.set_cons_succ]
        refine wpAnyH_take (i := 2) (v := ?v2n3) rfl (by kernel_rfl) (by kernel_rfl) (by kernel_rfl) (fun _ _ _ h => h) (Or.inl ⟨by rfl, ?y2n3⟩) HS.out ?r2n3
        case y2n3 => (intro w' hSw; clear hSw; go_simp; try with_reducible rfl)
        simp only [List.getElem_toArray, List.getElem_cons_succ, List.getElem_cons_zero, Act.put, List.setIfInBounds_toArray, List.set_cons_zero, List.set_cons_succ]
        refine wpAnyH_take (i := 3) (v := ?v3n4) rfl (by kernel_rfl) (by kernel_rfl) (by kernel_rfl) (fun _ _ _ h => h) (Or.inl ⟨by rfl, ?y3n4⟩) HS.out ?r3n4
        case y3n4 => (intro w' hSw; obtain ⟨s1, s2⟩ := hSw; go_simp; try with_reducible rfl)
        simp only [List.getElem_toArray, List.getElem_cons_succ, List.getElem_cons_zero, Act.put, List.setIfInBounds_toArray, List.set_cons_zero, List.set_cons_succ]
        refine wpAnyH_take (i := 4) (v := ?v4n5) rfl (by kernel_rfl) (by kernel_rfl) (by kernel_rfl) (fun _ _ _ h => h) (Or.inl ⟨by rfl, ?y4n5⟩) HS.out ?r4n5
        case y4n5 => (intro w' hSw; clear hSw; go_simp; try with_reducible rfl)
        simp only [List.getElem_toArray, List.getElem_cons_succ, List.getElem_cons_zero, Act.put, List.setIfInBounds_toArray, List.set_cons_zero, List.set_cons_succ]
        refine wpAnyH_take (i := 5) (v := ?v5n6) rfl (by kernel_rfl) (by kernel_rfl) (by kernel_rfl) (fun _ _ _ h => h) (Or.inl ⟨by rfl, ?y5n6⟩) HS.out ?r5n6
        case y5n6 => (intro w' hSw; obtain ⟨s1, s2⟩ := hSw; go_simp; try with_reducible rfl)
        simp only [List.getElem_toArray, List.getElem_cons_succ, List.getElem_cons_zero, Act.put, List.setIfInBounds_toArray, List.set_cons_zero, List.set_cons_succ]
        refine wpAnyH_take (i := 6) (v := ?v6n7) rfl (by kernel_rfl) (by kernel_rfl) (by kernel_rfl) (fun _ _ _ h => h) (Or.inl ⟨by rfl, ?y6n7⟩) HS.out ?r6n7
        case y6n7 => (intro w' hSw; clear hSw; go_simp; try with_reducible rfl)
        simp only [List.getElem_toArray, List.getElem_cons_succ, List.getElem_cons_zero, Act.put, List.setIfInBounds_toArray, List.set_cons_zero, List.set_cons_succ]
        refine wpAnyH_take (i := 7) (v := ?v7n8) rfl (by kernel_rfl) (by kernel_rfl) (by kernel_rfl) (fun _ _ _ h => h) (Or.inl ⟨by rfl, ?y7n8⟩) HS.out ?r7n8
        case y7n8 => (intro w' hSw; clear hSw; go_simp; try with_reducible rfl)
        simp only [List.getElem_toArray, List.getElem_cons_succ, List.getElem_cons_zero, Act.put, List.setIfInBounds_toArray, List.set_cons_zero, List.set_cons_succ]
        refine wpAnyH_take (i := 8) (v := ?v8n9) rfl (by kernel_rfl) (by kernel_rfl) (by kernel_rfl) (fun _ _ _ h => h) (Or.inl ⟨by rfl, ?y8n9⟩) HS.out ?r8n9
        case y8n9 => (intro w' hSw; clear hSw; go_simp; try with_reducible rfl)
        simp only [List.getElem_toArray, List.getElem_cons_succ, List.getElem_cons_zero, Act.put, List.setIfInBounds_toArray, List.set_cons_zero, List.set_cons_succ]
        refine wpAnyH_take (i := 9) (v := ?v9n10) rfl (by kernel_rfl) (by kernel_rfl) (by kernel_rfl) (fun _ _ _ h => h) (Or.inl ⟨by rfl, ?y9n10⟩) HS.out ?r9n10
        case y9n10 => (intro w' hSw; clear hSw; go_simp; try with_reducible rfl)
        simp only [List.getElem_toArray, List.getElem_cons_succ, List.getElem_cons_zero, Act.put, List.setIfInBounds_toArray, List.set_cons_zero, List.set_cons_succ]
        refine wpAnyH_take (i := 10) (v := ?v10n11) rfl (by kernel_rfl) (by kernel_rfl) (by kernel_rfl) (fun _ _ _ h => h) (Or.inl ⟨by rfl, ?y10n11⟩) HS.out ?r10n11
        case y10n11 => (intro w' hSw; clear hSw; go_simp; try with_reducible rfl)
        simp only [List.getElem_toArray, List.getElem_cons_succ, List.getElem_cons_zero, Act.put, List.setIfInBounds_toArray, List.set_cons_zero, List.set_cons_succ]
        refine wpAnyH_take (i := 11) (v := ?v11n12) rfl (by kernel_rfl) (by kernel_rfl) (by kernel_rfl) (fun _ _ _ h => h) (Or.inl ⟨by rfl, ?y11n12⟩) HS.out ?r11n12
        case y11n12 => (intro w' hSw; clear hSw; go_simp; try with_reducible rfl)
        simp only [List.getElem_toArray, List.getElem_cons_succ, List.getElem_cons_zero, Act.put, List.setIfInBounds_toArray, List.set_cons_zero, List.set_cons_succ]
        refine wpAnyH_take (i := 12) (v := ?v12n13) rfl (by kernel_rfl) (by kernel_rfl) (by kernel_rfl) (fun _ _ _ h => h) (Or.inl ⟨by rfl, ?y12n13⟩) HS.out ?r12n13
        case y12n13 => (intro w' hSw; clear hSw; go_simp; try with_reducible rfl)
        simp only [List.getElem_toArray, List.getElem_cons_succ, List.getElem_cons_zero, Act.put, List.setIfInBounds_toArray, List.set_cons_zero, List.set_cons_succ]
        refine wpAnyH_take (i := 13) (v := ?v13n14) rfl (by kernel_rfl) (by kernel_rfl) (by kernel_rfl) (fun _ _ _ h => h) (Or.inl ⟨by rfl, ?y13n14⟩) HS.out ?r13n14
        case y13n14 => (intro w' hSw; clear hSw; go_simp; try with_reducible rfl)
        simp only [List.getElem_toArray, List.getElem_cons_succ, List.getElem_cons_zero, Act.put, List.setIfInBounds_toArray, List.set_cons_zero, List.set_cons_succ]
        refine wpAnyH_take (i := 14) (v := ?v14n15) rfl (by kernel_rfl) (by kernel_rfl) (by kernel_rfl) (fun _ _ _ h => h) (Or.inl ⟨by rfl, ?y14n15⟩) HS.out ?r14n15
        case y14n15 => (intro w' hSw; clear hSw; go_simp; try with_reducible rfl)
        simp only [List.getElem_toArray, List.getElem_cons_succ, List.getElem_cons_zero, Act.put, List.setIfInBounds_toArray, List.set_cons_zero, List.set_cons_succ]
        refine wpAnyH_take (i := 15) (v := ?v15n16) rfl (by kernel_rfl) (by kernel_rfl) (by kernel_rfl) (fun _ _ _ h => h) (Or.inl ⟨by rfl, ?y15n16⟩) HS.out ?r15n16
        case y15n16 => (intro w' hSw; clear hSw; go_simp; try with_reducible rfl)
        simp only [List.getElem_toArray, List.getElem_cons_succ, List.getElem_cons_zero, Act.put, List.setIfInBounds_toArray, List.set_cons_zero, List.set_cons_succ]
        refine wpAnyH_take (i := 18) (v := ?v18n17) rfl (by kernel_rfl) (by kernel_rfl) (by kernel_rfl) (fun _ _ _ h => h) (Or.inl ⟨by rfl, ?y18n17⟩) HS.out ?r18n17
        case y18n17 => (intro w' hSw; clear hSw; go_simp; try with_reducible rfl)
        simp only [List.getElem_toArray, List.getElem_cons_succ, List.getElem_cons_zero, Act.put, List.setIfInBounds_toArray, List.set_cons_zero, List.set_cons_succ]
        refine wpAnyH_take (i := 19) (v := ?v19n18) rfl (by kernel_rfl) (by kernel_rfl) (by kernel_rfl) (fun _ _ _ h => h) (Or.inl ⟨by rfl, ?y19n18⟩) HS.out ?r19n18
        case y19n18 => (intro w' hSw; clear hSw; go_simp; try with_reducible rfl)
        simp only [List.getElem_toArray, List.getElem_cons_succ, List.getElem_cons_zero, Act.put, List.setIfInBounds_toArray, List.set_cons_zero, List.set_cons_succ]
        refine wpAnyH_take (i := 20) (v := ?v20n19) rfl (by kernel_rfl) (by kernel_rfl) (by kernel_rfl) (fun _ _ _ h => h) (Or.inl ⟨by rfl, ?y20n19⟩) HS.out ?r20n19
        case y20n19 => (intro w' hSw; clear hSw; go_simp; try with_reducible rfl)
        simp only [List.getElem_toArray, List.getElem_cons_succ, List.getElem_cons_zero, Act.put, List.setIfInBounds_toArray, List.set_cons_zero, List.set_cons_succ]
        refine wpAnyH_take (i := 21) (v := ?v21n20) rfl (by kernel_rfl) (by kernel_rfl) (by kernel_rfl) (fun _ _ _ h => h) (Or.inl ⟨by rfl, ?y21n20⟩) HS.out ?r21n20
        case y21n20 => (intro w' hSw; clear hSw; go_simp; try with_reducible rfl)
        simp only [List.getElem_toArray, List.getElem_cons_succ, List.getElem_cons_zero, Act.put, List.setIfInBounds_toArray, List.set_cons_zero, List.set_cons_succ]
        refine wpAnyH_ready (rs := [16]) (by kernel_rfl) (by simp) ?_
        refine AllReadyH.cons rfl (fun K hK => ?_) AllReadyH.nil
        simp only [List.getElem_toArray, List.getElem_cons_succ, List.getElem_cons_zero]
        go_simp
        refine (label_any s A A3 a x na ca nx cx N wd (HT.out.below HB3.out h2) ((HRa.out.below HB3.out).more hsd) (HNa.out ()) hla hxa (by omega) ((HRx.out.below HB3.out).more hsd) (HNx.out ()) HCx.out (by omega) hs hmx).mono ?_
        rintro e' w5 ⟨h5, rfl, hown5, hB5⟩
        rw [HI.out ()] at hown5
        have HO5 := Lib.hid hown5; have HO125 := Lib.hid (own_below HO12.out hB5 (Nat.le_refl _)); have HO25 := Lib.hid (own_below HO2.out hB5 (Nat.le_refl _)); have HB5 := Lib.hid (HB3.out.trans (hB5.mono hsd))
        clear hown5 hB5
        have hc2 := conv_own HO25.out
        rw [← hIJ] at hc2
        have HS5 := Lib.hid (And.intro (conv_own HO125.out) hc2)
        clear hc2
        refine hK.out _ _ HS5.out (fun _ => ?_)
        clear hK K
        try simp only [List.getElem_toArray, List.getElem_cons_succ, List.getElem_cons_zero, Act.put, List.setIfInBounds_toArray, List.set_cons_zero, List.set_cons_succ]
        have hs5 := HB5.out.size
        obtain ⟨E, hE⟩ : ∃ E, expand a I N = E := ⟨_, rfl⟩
        rw [hE] at HO5
        have HE := Lib.hid (fun _ : Unit => hE); clear hE
        have HS6 := Lib.hid (conv_own HO5.out)
        refine wpAnyH_more (S' := fun w' => ((convert 22 9 (.slice (some ⟨h1, 0, none⟩) n1 c1)).run Tryd.prog w' = .ok (.string (txt I)) w' ∧ (convert 22 9 (.slice (some ⟨h2', 0, none⟩) n2 c2)).run Tryd.prog w' = .ok (.string (txt I)) w') ∧ (convert 22 9 (.slice (some ⟨h5, 0, none⟩) N N)).run Tryd.prog w' = .ok (.string (txt E)) w') (fun _ h => h.1) _ _ _ _ ?_
        refine wpAnyH_take (i := 17) (v := ?v17n21) rfl (by kernel_rfl) (by kernel_rfl) (by kernel_rfl) (fun _ _ _ h => h) (Or.inl ⟨by rfl, ?y17n21⟩) ⟨HS5.out, HS6.out⟩ ?r17n21
        case y17n21 => (intro w' hSw; have s1 := hSw.2; (try dsimp only at s1); clear hSw; go_simp; try with_reducible rfl)
        simp only [List.getElem_toArray, List.getElem_cons_succ, List.getElem_cons_zero, Act.put, List.setIfInBounds_toArray, List.set_cons_zero, List.set_cons_succ]
        refine wpAnyH_ready (rs := [22]) (by kernel_rfl) (by simp) ?_
        refine AllReadyH.cons rfl (fun K hK => ?_) AllReadyH.nil
        simp only [List.getElem_toArray, List.getElem_cons_succ, List.getElem_cons_zero]
        go_simp
        refine (expand_any A (some ⟨h1, 0, none⟩) a I na ca n1 c1 N w5 (HT.out.below HB5.out h2) ((HRa.out.below HB5.out).more hs5) (HNa.out ()) hla hxa (by omega) (rd_of_own HO125.out HIx.out (Nat.le_refl _)) (HL1.out ()) hcp1.1 hcp1.2 (by omega) (by omega)).mono ?_
        rintro e' w7 ⟨h7, rfl, hown7, hB7⟩
        rw [HE.out ()] at hown7
        have HO7 := Lib.hid hown7; have HO127 := Lib.hid (own_below HO125.out hB7 (Nat.le_refl _)); have HO27 := Lib.hid (own_below HO25.out hB7 (Nat.le_refl _)); have HO57 := Lib.hid (own_below HO5.out hB7 (Nat.le_refl _)); have HB7 := Lib.hid (HB5.out.trans (hB7.mono hs5))
        clear hown7 hB7
        have hc2 := conv_own HO27.out
        rw [← hIJ] at hc2
        have HS7 := Lib.hid (And.intro (And.intro (conv_own HO127.out) hc2) (conv_own HO57.out))
        clear hc2
        refine hK.out _ _ HS7.out (fun _ => ?_)
        clear hK K
        try simp only [List.getElem_toArray, List.getElem_cons_succ, List.getElem_cons_zero, Act.put, List.setIfInBounds_toArray, List.set_cons_zero, List.set_cons_succ]
        have HS8 := Lib.hid (conv_own HO7.out)
        refine wpAnyH_more (S' := fun w' => (((convert 22 9 (.slice (some ⟨h1, 0, none⟩) n1 c1)).run Tryd.prog w' = .ok (.string (txt I)) w' ∧ (convert 22 9 (.slice (some ⟨h2', 0, none⟩) n2 c2)).run Tryd.prog w' = .ok (.string (txt I)) w') ∧ (convert 22 9 (.slice (some ⟨h5, 0, none⟩) N N)).run Tryd.prog w' = .ok (.string (txt E)) w') ∧ (convert 22 9 (.slice (some ⟨h7, 0, none⟩) N N)).run Tryd.prog w' = .ok (.string (txt E)) w') (fun _ h => h.1) _ _ _ _ ?_
        refine wpAnyH_take (i := 23) (v := ?v23n22) rfl (by kernel_rfl) (by kernel_rfl) (by kernel_rfl) (fun _ _ _ h => h) (Or.inl ⟨by rfl, ?y23n22⟩) ⟨HS7.out, HS8.out⟩ ?r23n22
        case y23n22 => (intro w' hSw; have s1 := hSw.2; (try dsimp only at s1); clear hSw; go_simp; try with_reducible rfl)
        simp only [List.getElem_toArray, List.getElem_cons_succ, List.getElem_cons_zero, Act.put, List.setIfInBounds_toArray, List.set_cons_zero, List.set_cons_succ]
        refine wpAnyH_take (i := 24) (v := ?v24n23) rfl (by kernel_rfl) (by kernel_rfl) (by kernel_rfl) (fun _ _ _ h => h) (Or.inl ⟨by rfl, ?y24n23⟩) ⟨HS7.out, HS8.out⟩ ?r24n23
        case y24n23 => (intro w' hSw; clear hSw; go_simp; try with_reducible rfl)
        simp only [List.getElem_toArray, List.getElem_cons_succ, List.getElem_cons_zero, Act.put, List.setIfInBounds_toArray, List.set_cons_zero, List.set_cons_succ]
        refine wpAnyH_take (i := 25) (v := ?v25n24) rfl (by kernel_rfl) (by kernel_rfl) (by kernel_rfl) (fun _ _ _ h => h) (Or.inl ⟨by rfl, ?y25n24⟩) ⟨HS7.out, HS8.out⟩ ?r25n24
        case y25n24 => (intro w' hSw; clear hSw; go_simp; try with_reducible rfl)
        simp only [List.getElem_toArray, List.getElem_cons_succ, List.getElem_cons_zero, Act.put, List.setIfInBounds_toArray, List.set_cons_zero, List.set_cons_succ]
        refine wpAnyH_take (i := 26) (v := ?v26n25) rfl (by kernel_rfl) (by kernel_rfl) (by kernel_rfl) (fun _ _ _ h => h) (Or.inl ⟨by rfl, ?y26n25⟩) ⟨HS7.out, HS8.out⟩ ?r26n25
        case y26n25 => (intro w' hSw; clear hSw; go_simp; try with_reducible rfl)
        simp only [List.getElem_toArray, List.getElem_cons_succ, List.getElem_cons_zero, Act.put, List.setIfInBounds_toArray, List.set_cons_zero, List.set_cons_succ]
        refine wpAnyH_done (by kernel_rfl) ?_ _
        change Exit.then _ _ Exit.normal _ _
        go_wp2
        go_ret
        exact ⟨rfl, HB7.out⟩
      · have hIJ : ¬ txt I = txt J := fun e => hNM ((HEQ.out ()).1 e).2
        have hIb : (txt I == txt J) = false := str_ne hIJ
        have hI2 := str_tl hIJ
        have hNb : ((N : Int) == (M : Int)) = false := by rw [beq_eq_false_iff_ne]; omega
        clear HEQ hxy
        go_wp2_with fail
        refine region_calm ?_
        refine wp_region_any (by kernel_rfl) ?_
        change wpAny _ _ _ _ _ _ _ (World.drew _)
        replace HO2 := Lib.hid HO2.out.drew; replace HO12 := Lib.hid HO12.out.drew; replace HB3 := Lib.hid HB3.out.drew
        clear hcx hcy
        generalize w3.drew = wd at *
        have hsd := HB3.out.size
        have hc1 := conv_own HO12.out
        have hc2 := conv_own HO2.out
        have HS := Lib.hid (And.intro hc1 hc2)
        clear hc1 hc2
        refine wpAny_of_held (S := fun w' => (convert 22 9 (.slice (some ⟨h1, 0, none⟩) n1 c1)).run Tryd.prog w' = .ok (.string (txt I)) w' ∧ (convert 22 9 (.slice (some ⟨h2', 0, none⟩) n2 c2)).run Tryd.prog w' = .ok (.string (txt J)) w') _ _ _ _ ?_
        refine wpAnyH_take (i := 0) (v := ?v0n26) rfl (by kernel_rfl) (by kernel_rfl) (by kernel_rfl) (fun _ _ _ h => h) (Or.inl ⟨by rfl, ?y0n26⟩) HS.out ?r0n26
        case y0n26 => (intro w' hSw; clear hSw; go_simp; try with_reducible rfl)
        simp only [List.getElem_toArray, List.getElem_cons_succ, List.getElem_cons_zero, Act.put, List.setIfInBounds_toArray, List.set_cons_zero, List.set_cons_succ]
        refine wpAnyH_take (i := 1) (v := ?v1n27) rfl (by kernel_rfl) (by kernel_rfl) (by kernel_rfl) (fun _ _ _ h => h) (Or.inl ⟨by rfl, ?y1n27⟩) HS.out ?r1n27
        case y1n27 => (intro w' hSw; clear hSw; go_simp; try with_reducible rfl)
        simp only [List.getElem_toArray, List.getElem_cons_succ, List.getElem_cons_zero, Act.put, List.setIfInBounds_toArray, List.set_cons_zero, List.set_cons_succ]
        refine wpAnyH_take (i := 2) (v := ?v2n28) rfl (by kernel_rfl) (by kernel_rfl) (by kernel_rfl) (fun _ _ _ h => h) (Or.inl ⟨by rfl, ?y2n28⟩) HS.out ?r2n28
        case y2n28 => (intro w' hSw; clear hSw; go_simp; try with_reducible rfl)
        simp only [List.getElem_toArray, List.getElem_cons_succ, List.getElem_cons_zero, Act.put, List.setIfInBounds_toArray, List.set_cons_zero, List.set_cons_succ]
        refine wpAnyH_take (i := 3) (v := ?v3n29) rfl (by kernel_rfl) (by kernel_rfl) (by kernel_rfl) (fun _ _ _ h => h) (Or.inl ⟨by rfl, ?y3n29⟩) HS.out ?r3n29
        case y3n29 => (intro w' hSw; obtain ⟨s1, s2⟩ := hSw; go_simp; try with_reducible rfl)
        simp only [List.getElem_toArray, List.getElem_cons_succ, List.getElem_cons_zero, Act.put, List.setIfInBounds_toArray, List.set_cons_zero, List.set_cons_succ]
        refine wpAnyH_take (i := 4) (v := ?v4n30) rfl (by kernel_rfl) (by kernel_rfl) (by kernel_rfl) (fun _ _ _ h => h) (Or.inl ⟨by rfl, ?y4n30⟩) HS.out ?r4n30
        case y4n30 => (intro w' hSw; clear hSw; go_simp; try with_reducible rfl)
        simp only [List.getElem_toArray, List.getElem_cons_succ, List.getElem_cons_zero, Act.put, List.setIfInBounds_toArray, List.set_cons_zero, List.set_cons_succ]
        refine wpAnyH_take (i := 5) (v := ?v5n31) rfl (by kernel_rfl) (by kernel_rfl) (by kernel_rfl) (fun _ _ _ h => h) (Or.inl ⟨by rfl, ?y5n31⟩) HS.out ?r5n31
        case y5n31 => (intro w' hSw; obtain ⟨s1, s2⟩ := hSw; go_simp; try with_reducible rfl)
        simp only [List.getElem_toArray, List.getElem_cons_succ, List.getElem_cons_zero, Act.put, List.setIfInBounds_toArray, List.set_cons_zero, List.set_cons_succ]
        refine wpAnyH_take (i := 6) (v := (.bool false)) rfl (by kernel_rfl) (by kernel_rfl) (by kernel_rfl) (fun _ _ _ h => h) (Or.inl ⟨by rfl, ?y6n32⟩) HS.out ?r6n32
        case y6n32 => (intro w' hSw; clear hSw; go_simp; first | done | (rw [decide_eq_false hI2]) | (simp [hI2]) | (simp [hIb]))
        simp only [List.getElem_toArray, List.getElem_cons_succ, List.getElem_cons_zero, Act.put, List.setIfInBounds_toArray, List.set_cons_zero, List.set_cons_succ]
        refine wpAnyH_take (i := 7) (v := ?v7n33) rfl (by kernel_rfl) (by kernel_rfl) (by kernel_rfl) (fun _ _ _ h => h) (Or.inl ⟨by rfl, ?y7n33⟩) HS.out ?r7n33
        case y7n33 => (intro w' hSw; clear hSw; go_simp; try with_reducible rfl)
        simp only [List.getElem_toArray, List.getElem_cons_succ, List.getElem_cons_zero, Act.put, List.setIfInBounds_toArray, List.set_cons_zero, List.set_cons_succ]
        refine wpAnyH_take (i := 8) (v := ?v8n34) rfl (by kernel_rfl) (by kernel_rfl) (by kernel_rfl) (fun _ _ _ h => h) (Or.inl ⟨by rfl, ?y8n34⟩) HS.out ?r8n34
        case y8n34 => (intro w' hSw; clear hSw; go_simp; try with_reducible rfl)
        simp only [List.getElem_toArray, List.getElem_cons_succ, List.getElem_cons_zero, Act.put, List.setIfInBounds_toArray, List.set_cons_zero, List.set_cons_succ]
        refine wpAnyH_take (i := 9) (v := ?v9n35) rfl (by kernel_rfl) (by kernel_rfl) (by kernel_rfl) (fun _ _ _ h => h) (Or.inl ⟨by rfl, ?y9n35⟩) HS.out ?r9n35
        case y9n35 => (intro w' hSw; clear hSw; go_simp; try with_reducible rfl)
        simp only [List.getElem_toArray, List.getElem_cons_succ, List.getElem_cons_zero, Act.put, List.setIfInBounds_toArray, List.set_cons_zero, List.set_cons_succ]
        refine wpAnyH_take (i := 10) (v := ?v10n36) rfl (by kernel_rfl) (by kernel_rfl) (by kernel_rfl) (fun _ _ _ h => h) (Or.inl ⟨by rfl, ?y10n36⟩) HS.out ?r10n36
        case y10n36 => (intro w' hSw; clear hSw; go_simp; try with_reducible rfl)
        simp only [List.getElem_toArray, List.getElem_cons_succ, List.getElem_cons_zero, Act.put, List.setIfInBounds_toArray, List.set_cons_zero, List.set_cons_succ]
        refine wpAnyH_take (i := 11) (v := ?v11n37) rfl (by kernel_rfl) (by kernel_rfl) (by kernel_rfl) (fun _ _ _ h => h) (Or.inl ⟨by rfl, ?y11n37⟩) HS.out ?r11n37
        case y11n37 => (intro w' hSw; clear hSw; go_simp; try with_reducible rfl)
        simp only [List.getElem_toArray, List.getElem_cons_succ, List.getElem_cons_zero, Act.put, List.setIfInBounds_toArray, List.set_cons_zero, List.set_cons_succ]
        refine wpAnyH_take (i := 12) (v := ?v12n38) rfl (by kernel_rfl) (by kernel_rfl) (by kernel_rfl) (fun _ _ _ h => h) (Or.inl ⟨by rfl, ?y12n38⟩) HS.out ?r12n38
        case y12n38 => (intro w' hSw; clear hSw; go_simp; try with_reducible rfl)
        simp only [List.getElem_toArray, List.getElem_cons_succ, List.getElem_cons_zero, Act.put, List.setIfInBounds_toArray, List.set_cons_zero, List.set_cons_succ]
        refine wpAnyH_take (i := 13) (v := ?v13n39) rfl (by kernel_rfl) (by kernel_rfl) (by kernel_rfl) (fun _ _ _ h => h) (Or.inl ⟨by rfl, ?y13n39⟩) HS.out ?r13n39
        case y13n39 => (intro w' hSw; clear hSw; go_simp; try with_reducible rfl)
        simp only [List.getElem_toArray, List.getElem_cons_succ, List.getElem_cons_zero, Act.put, List.setIfInBounds_toArray, List.set_cons_zero, List.set_cons_succ]
        refine wpAnyH_take (i := 14) (v := ?v14n40) rfl (by kernel_rfl) (by kernel_rfl) (by kernel_rfl) (fun _ _ _ h => h) (Or.inl ⟨by rfl, ?y14n40⟩) HS.out ?r14n40
        case y14n40 => (intro w' hSw; clear hSw; go_simp; try with_reducible rfl)
        simp only [List.getElem_toArray, List.getElem_cons_succ, List.getElem_cons_zero, Act.put, List.setIfInBounds_toArray, List.set_cons_zero, List.set_cons_succ]
        refine wpAnyH_take (i := 15) (v := ?v15n41) rfl (by kernel_rfl) (by kernel_rfl) (by kernel_rfl) (fun _ _ _ h => h) (Or.inl ⟨by rfl, ?y15n41⟩) HS.out ?r15n41
        case y15n41 => (intro w' hSw; clear hSw; go_simp; try with_reducible rfl)
        simp only [List.getElem_toArray, List.getElem_cons_succ, List.getElem_cons_zero, Act.put, List.setIfInBounds_toArray, List.set_cons_zero, List.set_cons_succ]
        refine wpAnyH_take (i := 18) (v := ?v18n42) rfl (by kernel_rfl) (by kernel_rfl) (by kernel_rfl) (fun _ _ _ h => h) (Or.inl ⟨by rfl, ?y18n42⟩) HS.out ?r18n42
        case y18n42 => (intro w' hSw; clear hSw; go_simp; try with_reducible rfl)
        simp only [List.getElem_toArray, List.getElem_cons_succ, List.getElem_cons_zero, Act.put, List.setIfInBounds_toArray, List.set_cons_zero, List.set_cons_succ]
        refine wpAnyH_take (i := 19) (v := ?v19n43) rfl (by kernel_rfl) (by kernel_rfl) (by kernel_rfl) (fun _ _ _ h => h) (Or.inl ⟨by rfl, ?y19n43⟩) HS.out ?r19n43
        case y19n43 => (intro w' hSw; clear hSw; go_simp; try with_reducible rfl)
        simp only [List.getElem_toArray, List.getElem_cons_succ, List.getElem_cons_zero, Act.put, List.setIfInBounds_toArray, List.set_cons_zero, List.set_cons_succ]
        refine wpAnyH_take (i := 20) (v := ?v20n44) rfl (by kernel_rfl) (by kernel_rfl) (by kernel_rfl) (fun _ _ _ h => h) (Or.inl ⟨by rfl, ?y20n44⟩) HS.out ?r20n44
        case y20n44 => (intro w' hSw; clear hSw; go_simp; try with_reducible rfl)
        simp only [List.getElem_toArray, List.getElem_cons_succ, List.getElem_cons_zero, Act.put, List.setIfInBounds_toArray, List.set_cons_zero, List.set_cons_succ]
        refine wpAnyH_take (i := 21) (v := ?v21n45) rfl (by kernel_rfl) (by kernel_rfl) (by kernel_rfl) (fun _ _ _ h => h) (Or.inl ⟨by rfl, ?y21n45⟩) HS.out ?r21n45
        case y21n45 => (intro w' hSw; clear hSw; go_simp; try with_reducible rfl)
        simp only [List.getElem_toArray, List.getElem_cons_succ, List.getElem_cons_zero, Act.put, List.setIfInBounds_toArray, List.set_cons_zero, List.set_cons_succ]
        refine wpAnyH_ready (rs := [16]) (by kernel_rfl) (by simp) ?_
        refine AllReadyH.cons rfl (fun K hK => ?_) AllReadyH.nil
        simp only [List.getElem_toArray, List.getElem_cons_succ, List.getElem_cons_zero]
        go_simp
        refine (label_any s A A3 a x na ca nx cx N wd (HT.out.below HB3.out h2) ((HRa.out.below HB3.out).more hsd) (HNa.out ()) hla hxa (by omega) ((HRx.out.below HB3.out).more hsd) (HNx.out ()) HCx.out (by omega) hs hmx).mono ?_
        rintro e' w5 ⟨h5, rfl, hown5, hB5⟩
        rw [HI.out ()] at hown5
        have HO5 := Lib.hid hown5; have HO125 := Lib.hid (own_below HO12.out hB5 (Nat.le_refl _)); have HO25 := Lib.hid (own_below HO2.out hB5 (Nat.le_refl _)); have HB5 := Lib.hid (HB3.out.trans (hB5.mono hsd))
        clear hown5 hB5
        have hc2 := conv_own HO25.out
        have HS5 := Lib.hid (And.intro (conv_own HO125.out) hc2)
        clear hc2
        refine hK.out _ _ HS5.out (fun _ => ?_)
        clear hK K
        try simp only [List.getElem_toArray, List.getElem_cons_succ, List.getElem_cons_zero, Act.put, List.setIfInBounds_toArray, List.set_cons_zero, List.set_cons_succ]
        have hs5 := HB5.out.size
        obtain ⟨E, hE⟩ : ∃ E, expand a I N = E := ⟨_, rfl⟩
        rw [hE] at HO5
        have HE := Lib.hid (fun _ : Unit => hE); clear hE
        have HS6 := Lib.hid (conv_own HO5.out)
        refine wpAnyH_more (S' := fun w' => ((convert 22 9 (.slice (some ⟨h1, 0, none⟩) n1 c1)).run Tryd.prog w' = .ok (.string (txt I)) w' ∧ (convert 22 9 (.slice (some ⟨h2', 0, none⟩) n2 c2)).run Tryd.prog w' = .ok (.string (txt J)) w') ∧ (convert 22 9 (.slice (some ⟨h5, 0, none⟩) N N)).run Tryd.prog w' = .ok (.string (txt E)) w') (fun _ h => h.1) _ _ _ _ ?_
        refine wpAnyH_take (i := 17) (v := ?v17n46) rfl (by kernel_rfl) (by kernel_rfl) (by kernel_rfl) (fun _ _ _ h => h) (Or.inl ⟨by rfl, ?y17n46⟩) ⟨HS5.out, HS6.out⟩ ?r17n46
        case y17n46 => (intro w' hSw; have s1 := hSw.2; (try dsimp only at s1); clear hSw; go_simp; try with_reducible rfl)
        simp only [List.getElem_toArray, List.getElem_cons_succ, List.getElem_cons_zero, Act.put, List.setIfInBounds_toArray, List.set_cons_zero, List.set_cons_succ]
        refine wpAnyH_ready (rs := [22]) (by kernel_rfl) (by simp) ?_
        refine AllReadyH.cons rfl (fun K hK => ?_) AllReadyH.nil
        simp only [List.getElem_toArray, List.getElem_cons_succ, List.getElem_cons_zero]
        go_simp
        refine (expand_any A (some ⟨h1, 0, none⟩) a I na ca n1 c1 N w5 (HT.out.below HB5.out h2) ((HRa.out.below HB5.out).more hs5) (HNa.out ()) hla hxa (by omega) (rd_of_own HO125.out HIx.out (Nat.le_refl _)) (HL1.out ()) hcp1.1 hcp1.2 (by omega) (by omega)).mono ?_
        rintro e' w7 ⟨h7, rfl, hown7, hB7⟩
        rw [HE.out ()] at hown7
        have HO7 := Lib.hid hown7; have HO127 := Lib.hid (own_below HO125.out hB7 (Nat.le_refl _)); have HO27 := Lib.hid (own_below HO25.out hB7 (Nat.le_refl _)); have HO57 := Lib.hid (own_below HO5.out hB7 (Nat.le_refl _)); have HB7 := Lib.hid (HB5.out.trans (hB7.mono hs5))
        clear hown7 hB7
        have hc2 := conv_own HO27.out
        have HS7 := Lib.hid (And.intro (And.intro (conv_own HO127.out) hc2) (conv_own HO57.out))
        clear hc2
        refine hK.out _ _ HS7.out (fun _ => ?_)
        clear hK K
        try simp only [List.getElem_toArray, List.getElem_cons_succ, List.getElem_cons_zero, Act.put, List.setIfInBounds_toArray, List.set_cons_zero, List.set_cons_succ]
        have HS8 := Lib.hid (conv_own HO7.out)
        refine wpAnyH_more (S' := fun w' => (((convert 22 9 (.slice (some ⟨h1, 0, none⟩) n1 c1)).run Tryd.prog w' = .ok (.string (txt I)) w' ∧ (convert 22 9 (.slice (some ⟨h2', 0, none⟩) n2 c2)).run Tryd.prog w' = .ok (.string (txt J)) w') ∧ (convert 22 9 (.slice (some ⟨h5, 0, none⟩) N N)).run Tryd.prog w' = .ok (.string (txt E)) w') ∧ (convert 22 9 (.slice (some ⟨h7, 0, none⟩) N N)).run Tryd.prog w' = .ok (.string (txt E)) w') (fun _ h => h.1) _ _ _ _ ?_
        refine wpAnyH_take (i := 23) (v := ?v23n47) rfl (by kernel_rfl) (by kernel_rfl) (by kernel_rfl) (fun _ _ _ h => h) (Or.inl ⟨by rfl, ?y23n47⟩) ⟨HS7.out, HS8.out⟩ ?r23n47
        case y23n47 => (intro w' hSw; have s1 := hSw.2; (try dsimp only at s1); clear hSw; go_simp; try with_reducible rfl)
        simp only [List.getElem_toArray, List.getElem_cons_succ, List.getElem_cons_zero, Act.put, List.setIfInBounds_toArray, List.set_cons_zero, List.set_cons_succ]
        refine wpAnyH_take (i := 24) (v := ?v24n48) rfl (by kernel_rfl) (by kernel_rfl) (by kernel_rfl) (fun _ _ _ h => h) (Or.inl ⟨by rfl, ?y24n48⟩) ⟨HS7.out, HS8.out⟩ ?r24n48
        case y24n48 => (intro w' hSw; clear hSw; go_simp; try with_reducible rfl)
        simp only [List.getElem_toArray, List.getElem_cons_succ, List.getElem_cons_zero, Act.put, List.setIfInBounds_toArray, List.set_cons_zero, List.set_cons_succ]
        refine wpAnyH_take (i := 25) (v := ?v25n49) rfl (by kernel_rfl) (by kernel_rfl) (by kernel_rfl) (fun _ _ _ h => h) (Or.inl ⟨by rfl, ?y25n49⟩) ⟨HS7.out, HS8.out⟩ ?r25n49
        case y25n49 => (intro w' hSw; clear hSw; go_simp; try with_reducible rfl)
        simp only [List.getElem_toArray, List.getElem_cons_succ, List.getElem_cons_zero, Act.put, List.setIfInBounds_toArray, List.set_cons_zero, List.set_cons_succ]
        refine wpAnyH_take (i := 26) (v := ?v26n50) rfl (by kernel_rfl) (by kernel_rfl) (by kernel_rfl) (fun _ _ _ h => h) (Or.inl ⟨by rfl, ?y26n50⟩) ⟨HS7.out, HS8.out⟩ ?r26n50
        case y26n50 => (intro w' hSw; clear hSw; go_simp; try with_reducible rfl)
        simp only [List.getElem_toArray, List.getElem_cons_succ, List.getElem_cons_zero, Act.put, List.setIfInBounds_toArray, List.set_cons_zero, List.set_cons_succ]
        refine wpAnyH_done (by kernel_rfl) ?_ _
        change Exit.then _ _ Exit.normal _ _
        go_wp2
        go_ret
        exact ⟨rfl, HB7.out⟩
    · have hIJ : ¬ txt I = txt J := fun e => hxy ((HEQ.out ()).1 e).1.2
      have hIb : (txt I == txt J) = false := str_ne hIJ
      have hI2 := str_tl hIJ
      have hxb : (txt x == txt y) = false := str_ne hxy
      have hx2 := str_tl hxy
      clear HEQ
      go_wp2_with fail
      refine region_calm ?_
      refine wp_region_any (by kernel_rfl) ?_
      change wpAny _ _ _ _ _ _ _ (World.drew _)
      replace HO2 := Lib.hid HO2.out.drew; replace HO12 := Lib.hid HO12.out.drew; replace HB3 := Lib.hid HB3.out.drew
      clear hcx hcy
      generalize w3.drew = wd at *
      have hsd := HB3.out.size
      have hc1 := conv_own HO12.out
      have hc2 := conv_own HO2.out
      have HS := Lib.hid (And.intro hc1 hc2)
      clear hc1 hc2
      refine wpAny_of_held (S := fun w' => (convert 22 9 (.slice (some ⟨h1, 0, none⟩) n1 c1)).run Tryd.prog w' = .ok (.string (txt I)) w' ∧ (convert 22 9 (.slice (some ⟨h2', 0, none⟩) n2 c2)).run Tryd.prog w' = .ok (.string (txt J)) w') _ _ _ _ ?_
      refine wpAnyH_take (i := 0) (v := ?v0n51) rfl (by kernel_rfl) (by kernel_rfl) (by kernel_rfl) (fun _ _ _ h => h) (Or.inl ⟨by rfl, ?y0n51⟩) HS.out ?r0n51
      case y0n51 => (intro w' hSw; clear hSw; go_simp; try with_reducible rfl)
      simp only [List.getElem_toArray, List.getElem_cons_succ, List.getElem_cons_zero, Act.put, List.setIfInBounds_toArray, List.set_cons_zero, List.set_cons_succ]
      refine wpAnyH_take (i := 1) (v := ?v1n52) rfl (by kernel_rfl) (by kernel_rfl) (by kernel_rfl) (fun _ _ _ h => h) (Or.inl ⟨by rfl, ?y1n52⟩) HS.out ?r1n52
      case y1n52 => (intro w' hSw; clear hSw; go_simp; try with_reducible rfl)
      simp only [List.getElem_toArray, List.getElem_cons_succ, List.getElem_cons_zero, Act.put, List.setIfInBounds_toArray, List.set_cons_zero, List.set_cons_succ]
      refine wpAnyH_take (i := 2) (v := ?v2n53) rfl (by kernel_rfl) (by kernel_rfl) (by kernel_rfl) (fun _ _ _ h => h) (Or.inl ⟨by rfl, ?y2n53⟩) HS.out ?r2n53
      case y2n53 => (intro w' hSw; clear hSw; go_simp; try with_reducible rfl)
      simp only [List.getElem_toArray, List.getElem_cons_succ, List.getElem_cons_zero, Act.put, List.setIfInBounds_toArray, List.set_cons_zero, List.set_cons_succ]
      refine wpAnyH_take (i := 3) (v := ?v3n54) rfl (by kernel_rfl) (by kernel_rfl) (by kernel_rfl) (fun _ _ _ h => h) (Or.inl ⟨by rfl, ?y3n54⟩) HS.out ?r3n54
      case y3n54 => (intro w' hSw; obtain ⟨s1, s2⟩ := hSw; go_simp; try with_reducible rfl)
      simp only [List.getElem_toArray, List.getElem_cons_succ, List.getElem_cons_zero, Act.put, List.setIfInBounds_toArray, List.set_cons_zero, List.set_cons_succ]
      refine wpAnyH_take (i := 4) (v := ?v4n55) rfl (by kernel_rfl) (by kernel_rfl) (by kernel_rfl) (fun _ _ _ h => h) (Or.inl ⟨by rfl, ?y4n55⟩) HS.out ?r4n55
      case y4n55 => (intro w' hSw; clear hSw; go_simp; try with_reducible rfl)
      simp only [List.getElem_toArray, List.getElem_cons_succ, List.getElem_cons_zero, Act.put, List.setIfInBounds_toArray, List.set_cons_zero, List.set_cons_succ]
      refine wpAnyH_take (i := 5) (v := ?v5n56) rfl (by kernel_rfl) (by kernel_rfl) (by kernel_rfl) (fun _ _ _ h => h) (Or.inl ⟨by rfl, ?y5n56⟩) HS.out ?r5n56
      case y5n56 => (intro w' hSw; obtain ⟨s1, s2⟩ := hSw; go_simp; try with_reducible rfl)
      simp only [List.getElem_toArray, List.getElem_cons_succ, List.getElem_cons_zero, Act.put, List.setIfInBounds_toArray, List.set_cons_zero, List.set_cons_succ]
      refine wpAnyH_take (i := 6) (v := (.bool false)) rfl (by kernel_rfl) (by kernel_rfl) (by kernel_rfl) (fun _ _ _ h => h) (Or.inl ⟨by rfl, ?y6n57⟩) HS.out ?r6n57
      case y6n57 => (intro w' hSw; clear hSw; go_simp; first | done | (rw [decide_eq_false hI2]) | (simp [hI2]) | (simp [hIb]))
      simp only [List.getElem_toArray, List.getElem_cons_succ, List.getElem_cons_zero, Act.put, List.setIfInBounds_toArray, List.set_cons_zero, List.set_cons_succ]
      refine wpAnyH_take (i := 7) (v := ?v7n58) rfl (by kernel_rfl) (by kernel_rfl) (by kernel_rfl) (fun _ _ _ h => h) (Or.inl ⟨by rfl, ?y7n58⟩) HS.out ?r7n58
      case y7n58 => (intro w' hSw; clear hSw; go_simp; try with_reducible rfl)
      simp only [List.getElem_toArray, List.getElem_cons_succ, List.getElem_cons_zero, Act.put, List.setIfInBounds_toArray, List.set_cons_zero, List.set_cons_succ]
      refine wpAnyH_take (i := 8) (v := ?v8n59) rfl (by kernel_rfl) (by kernel_rfl) (by kernel_rfl) (fun _ _ _ h => h) (Or.inl ⟨by rfl, ?y8n59⟩) HS.out ?r8n59
      case y8n59 => (intro w' hSw; clear hSw; go_simp; try with_reducible rfl)
      simp only [List.getElem_toArray, List.getElem_cons_succ, List.getElem_cons_zero, Act.put, List.setIfInBounds_toArray, List.set_cons_zero, List.set_cons_succ]
      refine wpAnyH_take (i := 9) (v := ?v9n60) rfl (by kernel_rfl) (by kernel_rfl) (by kernel_rfl) (fun _ _ _ h => h) (Or.inl ⟨by rfl, ?y9n60⟩) HS.out ?r9n60
      case y9n60 => (intro w' hSw; clear hSw; go_simp; try with_reducible rfl)
      simp only [List.getElem_toArray, List.getElem_cons_succ, List.getElem_cons_zero, Act.put, List.setIfInBounds_toArray, List.set_cons_zero, List.set_cons_succ]
      refine wpAnyH_take (i := 10) (v := ?v10n61) rfl (by kernel_rfl) (by kernel_rfl) (by kernel_rfl) (fun _ _ _ h => h) (Or.inl ⟨by rfl, ?y10n61⟩) HS.out ?r10n61
      case y10n61 => (intro w' hSw; clear hSw; go_simp; try with_reducible rfl)
      simp only [List.getElem_toArray, List.getElem_cons_succ, List.getElem_cons_zero, Act.put, List.setIfInBounds_toArray, List.set_cons_zero, List.set_cons_succ]
      refine wpAnyH_take (i := 11) (v := ?v11n62) rfl (by kernel_rfl) (by kernel_rfl) (by kernel_rfl) (fun _ _ _ h => h) (Or.inl ⟨by rfl, ?y11n62⟩) HS.out ?r11n62
      case y11n62 => (intro w' hSw; clear hSw; go_simp; try with_reducible rfl)
      simp only [List.getElem_toArray, List.getElem_cons_succ, List.getElem_cons_zero, Act.put, List.setIfInBounds_toArray, List.set_cons_zero, List.set_cons_succ]
      refine wpAnyH_take (i := 12) (v := ?v12n63) rfl (by kernel_rfl) (by kernel_rfl) (by kernel_rfl) (fun _ _ _ h => h) (Or.inl ⟨by rfl, ?y12n63⟩) HS.out ?r12n63
      case y12n63 => (intro w' hSw; clear hSw; go_simp; try with_reducible rfl)
      simp only [List.getElem_toArray, List.getElem_cons_succ, List.getElem_cons_zero, Act.put, List.setIfInBounds_toArray, List.set_cons_zero, List.set_cons_succ]
      refine wpAnyH_take (i := 13) (v := ?v13n64) rfl (by kernel_rfl) (by kernel_rfl) (by kernel_rfl) (fun _ _ _ h => h) (Or.inl ⟨by rfl, ?y13n64⟩) HS.out ?r13n64
      case y13n64 => (intro w' hSw; clear hSw; go_simp; try with_reducible rfl)
      simp only [List.getElem_toArray, List.getElem_cons_succ, List.getElem_cons_zero, Act.put, List.setIfInBounds_toArray, List.set_cons_zero, List.set_cons_succ]
      refine wpAnyH_take (i := 14) (v := ?v14n65) rfl (by kernel_rfl) (by kernel_rfl) (by kernel_rfl) (fun _ _ _ h => h) (Or.inl ⟨by rfl, ?y14n65⟩) HS.out ?r14n65
      case y14n65 => (intro w' hSw; clear hSw; go_simp; try with_reducible rfl)
      simp only [List.getElem_toArray, List.getElem_cons_succ, List.getElem_cons_zero, Act.put, List.setIfInBounds_toArray, List.set_cons_zero, List.set_cons_succ]
      refine wpAnyH_take (i := 15) (v := ?v15n66) rfl (by kernel_rfl) (by kernel_rfl) (by kernel_rfl) (fun _ _ _ h => h) (Or.inl ⟨by rfl, ?y15n66⟩) HS.out ?r15n66
      case y15n66 => (intro w' hSw; clear hSw; go_simp; try with_reducible rfl)
      simp only [List.getElem_toArray, List.getElem_cons_succ, List.getElem_cons_zero, Act.put, List.setIfInBounds_toArray, List.set_cons_zero, List.set_cons_succ]
      refine wpAnyH_take (i := 18) (v := ?v18n67) rfl (by kernel_rfl) (by kernel_rfl) (by kernel_rfl) (fun _ _ _ h => h) (Or.inl ⟨by rfl, ?y18n67⟩) HS.out ?r18n67
      case y18n67 => (intro w' hSw; clear hSw; go_simp; try with_reducible rfl)
      simp only [List.getElem_toArray, List.getElem_cons_succ, List.getElem_cons_zero, Act.put, List.setIfInBounds_toArray, List.set_cons_zero, List.set_cons_succ]
      refine wpAnyH_take (i := 19) (v := ?v19n68) rfl (by kernel_rfl) (by kernel_rfl) (by kernel_rfl) (fun _ _ _ h => h) (Or.inl ⟨by rfl, ?y19n68⟩) HS.out ?r19n68
      case y19n68 => (intro w' hSw; clear hSw; go_simp; try with_reducible rfl)
      simp only [List.getElem_toArray, List.getElem_cons_succ, List.getElem_cons_zero, Act.put, List.setIfInBounds_toArray, List.set_cons_zero, List.set_cons_succ]
      refine wpAnyH_take (i := 20) (v := ?v20n69) rfl (by kernel_rfl) (by kernel_rfl) (by kernel_rfl) (fun _ _ _ h => h) (Or.inl ⟨by rfl, ?y20n69⟩) HS.out ?r20n69
      case y20n69 => (intro w' hSw; clear hSw; go_simp; try with_reducible rfl)
      simp only [List.getElem_toArray, List.getElem_cons_succ, List.getElem_cons_zero, Act.put, List.setIfInBounds_toArray, List.set_cons_zero, List.set_cons_succ]
      refine wpAnyH_take (i := 21) (v := ?v21n70) rfl (by kernel_rfl) (by kernel_rfl) (by kernel_rfl) (fun _ _ _ h => h) (Or.inl ⟨by rfl, ?y21n70⟩) HS.out ?r21n70
      case y21n70 => (intro w' hSw; clear hSw; go_simp; try with_reducible rfl)
      simp only [List.getElem_toArray, List.getElem_cons_succ, List.getElem_cons_zero, Act.put, List.setIfInBounds_toArray, List.set_cons_zero, List.set_cons_succ]
      refine wpAnyH_ready (rs := [16]) (by kernel_rfl) (by simp) ?_
      refine AllReadyH.cons rfl (fun K hK => ?_) AllReadyH.nil
      simp only [List.getElem_toArray, List.getElem_cons_succ, List.getElem_cons_zero]
      go_simp
      refine (label_any s A A3 a x na ca nx cx N wd (HT.out.below HB3.out h2) ((HRa.out.below HB3.out).more hsd) (HNa.out ()) hla hxa (by omega) ((HRx.out.below HB3.out).more hsd) (HNx.out ()) HCx.out (by omega) hs hmx).mono ?_
      rintro e' w5 ⟨h5, rfl, hown5, hB5⟩
      rw [HI.out ()] at hown5
      have HO5 := Lib.hid hown5; have HO125 := Lib.hid (own_below HO12.out hB5 (Nat.le_refl _)); have HO25 := Lib.hid (own_below HO2.out hB5 (Nat.le_refl _)); have HB5 := Lib.hid (HB3.out.trans (hB5.mono hsd))
      clear hown5 hB5
      have hc2 := conv_own HO25.out
      have HS5 := Lib.hid (And.intro (conv_own HO125.out) hc2)
      clear hc2
      refine hK.out _ _ HS5.out (fun _ => ?_)
      clear hK K
      try simp only [List.getElem_toArray, List.getElem_cons_succ, List.getElem_cons_zero, Act.put, List.setIfInBounds_toArray, List.set_cons_zero, List.set_cons_succ]
      have hs5 := HB5.out.size
      obtain ⟨E, hE⟩ : ∃ E, expand a I N = E := ⟨_, rfl⟩
      rw [hE] at HO5
      have HE := Lib.hid (fun _ : Unit => hE); clear hE
      have HS6 := Lib.hid (conv_own HO5.out)
      refine wpAnyH_more (S' := fun w' => ((convert 22 9 (.slice (some ⟨h1, 0, none⟩) n1 c1)).run Tryd.prog w' = .ok (.string (txt I)) w' ∧ (convert 22 9 (.slice (some ⟨h2', 0, none⟩) n2 c2)).run Tryd.prog w' = .ok (.string (txt J)) w') ∧ (convert 22 9 (.slice (some ⟨h5, 0, none⟩) N N)).run Tryd.prog w' = .ok (.string (txt E)) w') (fun _ h => h.1) _ _ _ _ ?_
      refine wpAnyH_take (i := 17) (v := ?v17n71) rfl (by kernel_rfl) (by kernel_rfl) (by kernel_rfl) (fun _ _ _ h => h) (Or.inl ⟨by rfl, ?y17n71⟩) ⟨HS5.out, HS6.out⟩ ?r17n71
      case y17n71 => (intro w' hSw; have s1 := hSw.2; (try dsimp only at s1); clear hSw; go_simp; try with_reducible rfl)
      simp only [List.getElem_toArray, List.getElem_cons_succ, List.getElem_cons_zero, Act.put, List.setIfInBounds_toArray, List.set_cons_zero, List.set_cons_succ]
      refine wpAnyH_ready (rs := [22]) (by kernel_rfl) (by simp) ?_
      refine AllReadyH.cons rfl (fun K hK => ?_) AllReadyH.nil
      simp only [List.getElem_toArray, List.getElem_cons_succ, List.getElem_cons_zero]
      go_simp
      refine (expand_any A (some ⟨h1, 0, none⟩) a I na ca n1 c1 N w5 (HT.out.below HB5.out h2) ((HRa.out.below HB5.out).more hs5) (HNa.out ()) hla hxa (by omega) (rd_of_own HO125.out HIx.out (Nat.le_refl _)) (HL1.out ()) hcp1.1 hcp1.2 (by omega) (by omega)).mono ?_
      rintro e' w7 ⟨h7, rfl, hown7, hB7⟩
      rw [HE.out ()] at hown7
      have HO7 := Lib.hid hown7; have HO127 := Lib.hid (own_below HO125.out hB7 (Nat.le_refl _)); have HO27 := Lib.hid (own_below HO25.out hB7 (Nat.le_refl _)); have HO57 := Lib.hid (own_below HO5.out hB7 (Nat.le_refl _)); have HB7 := Lib.hid (HB5.out.trans (hB7.mono hs5))
      clear hown7 hB7
      have hc2 := conv_own HO27.out
      have HS7 := Lib.hid (And.intro (And.intro (conv_own HO127.out) hc2) (conv_own HO57.out))
      clear hc2
      refine hK.out _ _ HS7.out (fun _ => ?_)
      clear hK K
      try simp only [List.getElem_toArray, List.getElem_cons_succ, List.getElem_cons_zero, Act.put, List.setIfInBounds_toArray, List.set_cons_zero, List.set_cons_succ]
      have HS8 := Lib.hid (conv_own HO7.out)
      refine wpAnyH_more (S' := fun w' => (((convert 22 9 (.slice (some ⟨h1, 0, none⟩) n1 c1)).run Tryd.prog w' = .ok (.string (txt I)) w' ∧ (convert 22 9 (.slice (some ⟨h2', 0, none⟩) n2 c2)).run Tryd.prog w' = .ok (.string (txt J)) w') ∧ (convert 22 9 (.slice (some ⟨h5, 0, none⟩) N N)).run Tryd.prog w' = .ok (.string (txt E)) w') ∧ (convert 22 9 (.slice (some ⟨h7, 0, none⟩) N N)).run Tryd.prog w' = .ok (.string (txt E)) w') (fun _ h => h.1) _ _ _ _ ?_
      refine wpAnyH_take (i := 23) (v := ?v23n72) rfl (by kernel_rfl) (by kernel_rfl) (by kernel_rfl) (fun _ _ _ h => h) (Or.inl ⟨by rfl, ?y23n72⟩) ⟨HS7.out, HS8.out⟩ ?r23n72
      case y23n72 => (intro w' hSw; have s1 := hSw.2; (try dsimp only at s1); clear hSw; go_simp; try with_reducible rfl)
      simp only [List.getElem_toArray, List.getElem_cons_succ, List.getElem_cons_zero, Act.put, List.setIfInBounds_toArray, List.set_cons_zero, List.set_cons_succ]
      refine wpAnyH_take (i := 24) (v := ?v24n73) rfl (by kernel_rfl) (by kernel_rfl) (by kernel_rfl) (fun _ _ _ h => h) (Or.inl ⟨by rfl, ?y24n73⟩) ⟨HS7.out, HS8.out⟩ ?r24n73
      case y24n73 => (intro w' hSw; clear hSw; go_simp; try with_reducible rfl)
      simp only [List.getElem_toArray, List.getElem_cons_succ, List.getElem_cons_zero, Act.put, List.setIfInBounds_toArray, List.set_cons_zero, List.set_cons_succ]
      refine wpAnyH_take (i := 25) (v := ?v25n74) rfl (by kernel_rfl) (by kernel_rfl) (by kernel_rfl) (fun _ _ _ h => h) (Or.inl ⟨by rfl, ?y25n74⟩) ⟨HS7.out, HS8.out⟩ ?r25n74
      case y25n74 => (intro w' hSw; clear hSw; go_simp; try with_reducible rfl)
      simp only [List.getElem_toArray, List.getElem_cons_succ, List.getElem_cons_zero, Act.put, List.setIfInBounds_toArray, List.set_cons_zero, List.set_cons_succ]
      refine wpAnyH_take (i := 26) (v := ?v26n75) rfl (by kernel_rfl) (by kernel_rfl) (by kernel_rfl) (fun _ _ _ h => h) (Or.inl ⟨by rfl, ?y26n75⟩) ⟨HS7.out, HS8.out⟩ ?r26n75
      case y26n75 => (intro w' hSw; clear hSw; go_simp; try with_reducible rfl)
      simp only [List.getElem_toArray, List.getElem_cons_succ, List.getElem_cons_zero, Act.put, List.setIfInBounds_toArray, List.set_cons_zero, List.set_cons_succ]
      refine wpAnyH_done (by kernel_rfl) ?_ _
      change Exit.then _ _ Exit.normal _ _
      go_wp2
      go_ret
      exact ⟨rfl, HB7.out⟩
  · have hIJ : ¬ txt I = txt J := fun e => hst ((HEQ.out ()).1 e).1.1
    have hIb : (txt I == txt J) = false := str_ne hIJ
    have hI2 := str_tl hIJ
    have hsb : (s == t) = false := str_ne hst
    have hs2 := str_tl hst
    clear HEQ
    go_wp2_with fail
    refine region_calm ?_
    refine wp_region_any (by kernel_rfl) ?_
    change wpAny _ _ _ _ _ _ _ (World.drew _)
    replace HO2 := Lib.hid HO2.out.drew; replace HO12 := Lib.hid HO12.out.drew; replace HB3 := Lib.hid HB3.out.drew
    clear hcx hcy
    generalize w3.drew = wd at *
    have hsd := HB3.out.size
    have hc1 := conv_own HO12.out
    have hc2 := conv_own HO2.out
    have HS := Lib.hid (And.intro hc1 hc2)
    clear hc1 hc2
    refine wpAny_of_held (S := fun w' => (convert 22 9 (.slice (some ⟨h1, 0, none⟩) n1 c1)).run Tryd.prog w' = .ok (.string (txt I)) w' ∧ (convert 22 9 (.slice (some ⟨h2', 0, none⟩) n2 c2)).run Tryd.prog w' = .ok (.string (txt J)) w') _ _ _ _ ?_
    refine wpAnyH_take (i := 0) (v := ?v0n76) rfl (by kernel_rfl) (by kernel_rfl) (by kernel_rfl) (fun _ _ _ h => h) (Or.inl ⟨by rfl, ?y0n76⟩) HS.out ?r0n76
    case y0n76 => (intro w' hSw; clear hSw; go_simp; try with_reducible rfl)
    simp only [List.getElem_toArray, List.getElem_cons_succ, List.getElem_cons_zero, Act.put, List.setIfInBounds_toArray, List.set_cons_zero, List.set_cons_succ]
    refine wpAnyH_take (i := 1) (v := ?v1n77) rfl (by kernel_rfl) (by kernel_rfl) (by kernel_rfl) (fun _ _ _ h => h) (Or.inl ⟨by rfl, ?y1n77⟩) HS.out ?r1n77
    case y1n77 => (intro w' hSw; clear hSw; go_simp; try with_reducible rfl)
    simp only [List.getElem_toArray, List.getElem_cons_succ, List.getElem_cons_zero, Act.put, List.setIfInBounds_toArray, List.set_cons_zero, List.set_cons_succ]
    refine wpAnyH_take (i := 2) (v := ?v2n78) rfl (by kernel_rfl) (by kernel_rfl) (by kernel_rfl) (fun _ _ _ h => h) (Or.inl ⟨by rfl, ?y2n78⟩) HS.out ?r2n78
    case y2n78 => (intro w' hSw; clear hSw; go_simp; try with_reducible rfl)
    simp only [List.getElem_toArray, List.getElem_cons_succ, List.getElem_cons_zero, Act.put, List.setIfInBounds_toArray, List.set_cons_zero, List.set_cons_succ]
    refine wpAnyH_take (i := 3) (v := ?v3n79) rfl (by kernel_rfl) (by kernel_rfl) (by kernel_rfl) (fun _ _ _ h => h) (Or.inl ⟨by rfl, ?y3n79⟩) HS.out ?r3n79
    case y3n79 => (intro w' hSw; obtain ⟨s1, s2⟩ := hSw; go_simp; try with_reducible rfl)
    simp only [List.getElem_toArray, List.getElem_cons_succ, List.getElem_cons_zero, Act.put, List.setIfInBounds_toArray, List.set_cons_zero, List.set_cons_succ]
    refine wpAnyH_take (i := 4) (v := ?v4n80) rfl (by kernel_rfl) (by kernel_rfl) (by kernel_rfl) (fun _ _ _ h => h) (Or.inl ⟨by rfl, ?y4n80⟩) HS.out ?r4n80
    case y4n80 => (intro w' hSw; clear hSw; go_simp; try with_reducible rfl)
    simp only [List.getElem_toArray, List.getElem_cons_succ, List.getElem_cons_zero, Act.put, List.setIfInBounds_toArray, List.set_cons_zero, List.set_cons_succ]
    refine wpAnyH_take (i := 5) (v := ?v5n81) rfl (by kernel_rfl) (by kernel_rfl) (by kernel_rfl) (fun _ _ _ h => h) (Or.inl ⟨by rfl, ?y5n81⟩) HS.out ?r5n81
    case y5n81 => (intro w' hSw; obtain ⟨s1, s2⟩ := hSw; go_simp; try with_reducible rfl)
    simp only [List.getElem_toArray, List.getElem_cons_succ, List.getElem_cons_zero, Act.put, List.setIfInBounds_toArray, List.set_cons_zero, List.set_cons_succ]
    refine wpAnyH_take (i := 6) (v := (.bool false)) rfl (by kernel_rfl) (by kernel_rfl) (by kernel_rfl) (fun _ _ _ h => h) (Or.inl ⟨by rfl, ?y6n82⟩) HS.out ?r6n82
    case y6n82 => (intro w' hSw; clear hSw; go_simp; first | done | (rw [decide_eq_false hI2]) | (simp [hI2]) | (simp [hIb]))
    simp only [List.getElem_toArray, List.getElem_cons_succ, List.getElem_cons_zero, Act.put, List.setIfInBounds_toArray, List.set_cons_zero, List.set_cons_succ]
    refine wpAnyH_take (i := 7) (v := ?v7n83) rfl (by kernel_rfl) (by kernel_rfl) (by kernel_rfl) (fun _ _ _ h => h) (Or.inl ⟨by rfl, ?y7n83⟩) HS.out ?r7n83
    case y7n83 => (intro w' hSw; clear hSw; go_simp; try with_reducible rfl)
    simp only [List.getElem_toArray, List.getElem_cons_succ, List.getElem_cons_zero, Act.put, List.setIfInBounds_toArray, List.set_cons_zero, List.set_cons_succ]
    refine wpAnyH_take (i := 8) (v := ?v8n84) rfl (by kernel_rfl) (by kernel_rfl) (by kernel_rfl) (fun _ _ _ h => h) (Or.inl ⟨by rfl, ?y8n84⟩) HS.out ?r8n84
    case y8n84 => (intro w' hSw; clear hSw; go_simp; try with_reducible rfl)
    simp only [List.getElem_toArray, List.getElem_cons_succ, List.getElem_cons_zero, Act.put, List.setIfInBounds_toArray, List.set_cons_zero, List.set_cons_succ]
    refine wpAnyH_take (i := 9) (v := ?v9n85) rfl (by kernel_rfl) (by kernel_rfl) (by kernel_rfl) (fun _ _ _ h => h) (Or.inl ⟨by rfl, ?y9n85⟩) HS.out ?r9n85
    case y9n85 => (intro w' hSw; clear hSw; go_simp; try with_reducible rfl)
    simp only [List.getElem_toArray, List.getElem_cons_succ, List.getElem_cons_zero, Act.put, List.setIfInBounds_toArray, List.set_cons_zero, List.set_cons_succ]
    refine wpAnyH_take (i := 10) (v := ?v10n86) rfl (by kernel_rfl) (by kernel_rfl) (by kernel_rfl) (fun _ _ _ h => h) (Or.inl ⟨by rfl, ?y10n86⟩) HS.out ?r10n86
    case y10n86 => (intro w' hSw; clear hSw; go_simp; try with_reducible rfl)
    simp only [List.getElem_toArray, List.getElem_cons_succ, List.getElem_cons_zero, Act.put, List.setIfInBounds_toArray, List.set_cons_zero, List.set_cons_succ]
    refine wpAnyH_take (i := 11) (v := ?v11n87) rfl (by kernel_rfl) (by kernel_rfl) (by kernel_rfl) (fun _ _ _ h => h) (Or.inl ⟨by rfl, ?y11n87⟩) HS.out ?r11n87
    case y11n87 => (intro w' hSw; clear hSw; go_simp; try with_reducible rfl)
    simp only [List.getElem_toArray, List.getElem_cons_succ, List.getElem_cons_zero, Act.put, List.setIfInBounds_toArray, List.set_cons_zero, List.set_cons_succ]
    refine wpAnyH_take (i := 12) (v := ?v12n88) rfl (by kernel_rfl) (by kernel_rfl) (by kernel_rfl) (fun _ _ _ h => h) (Or.inl ⟨by rfl, ?y12n88⟩) HS.out ?r12n88
    case y12n88 => (intro w' hSw; clear hSw; go_simp; try with_reducible rfl)
    simp only [List.getElem_toArray, List.getElem_cons_succ, List.getElem_cons_zero, Act.put, List.setIfInBounds_toArray, List.set_cons_zero, List.set_cons_succ]
    refine wpAnyH_take (i := 13) (v := ?v13n89) rfl (by kernel_rfl) (by kernel_rfl) (by kernel_rfl) (fun _ _ _ h => h) (Or.inl ⟨by rfl, ?y13n89⟩) HS.out ?r13n89
    case y13n89 => (intro w' hSw; clear hSw; go_simp; try with_reducible rfl)
    simp only [List.getElem_toArray, List.getElem_cons_succ, List.getElem_cons_zero, Act.put, List.setIfInBounds_toArray, List.set_cons_zero, List.set_cons_succ]
    refine wpAnyH_take (i := 14) (v := ?v14n90) rfl (by kernel_rfl) (by kernel_rfl) (by kernel_rfl) (fun _ _ _ h => h) (Or.inl ⟨by rfl, ?y14n90⟩) HS.out ?r14n90
    case y14n90 => (intro w' hSw; clear hSw; go_simp; try with_reducible rfl)
    simp only [List.getElem_toArray, List.getElem_cons_succ, List.getElem_cons_zero, Act.put, List.setIfInBounds_toArray, List.set_cons_zero, List.set_cons_succ]
    refine wpAnyH_take (i := 15) (v := ?v15n91) rfl (by kernel_rfl) (by kernel_rfl) (by kernel_rfl) (fun _ _ _ h => h) (Or.inl ⟨by rfl, ?y15n91⟩) HS.out ?r15n91
    case y15n91 => (intro w' hSw; clear hSw; go_simp; try with_reducible rfl)
    simp only [List.getElem_toArray, List.getElem_cons_succ, List.getElem_cons_zero, Act.put, List.setIfInBounds_toArray, List.set_cons_zero, List.set_cons_succ]
    refine wpAnyH_take (i := 18) (v := ?v18n92) rfl (by kernel_rfl) (by kernel_rfl) (by kernel_rfl) (fun _ _ _ h => h) (Or.inl ⟨by rfl, ?y18n92⟩) HS.out ?r18n92
    case y18n92 => (intro w' hSw; clear hSw; go_simp; try with_reducible rfl)
    simp only [List.getElem_toArray, List.getElem_cons_succ, List.getElem_cons_zero, Act.put, List.setIfInBounds_toArray, List.set_cons_zero, List.set_cons_succ]
    refine wpAnyH_take (i := 19) (v := ?v19n93) rfl (by kernel_rfl) (by kernel_rfl) (by kernel_rfl) (fun _ _ _ h => h) (Or.inl ⟨by rfl, ?y19n93⟩) HS.out ?r19n93
    case y19n93 => (intro w' hSw; clear hSw; go_simp; try with_reducible rfl)
    simp only [List.getElem_toArray, List.getElem_cons_succ, List.getElem_cons_zero, Act.put, List.setIfInBounds_toArray, List.set_cons_zero, List.set_cons_succ]
    refine wpAnyH_take (i := 20) (v := ?v20n94) rfl (by kernel_rfl) (by kernel_rfl) (by kernel_rfl) (fun _ _ _ h => h) (Or.inl ⟨by rfl, ?y20n94⟩) HS.out ?r20n94
    case y20n94 => (intro w' hSw; clear hSw; go_simp; try with_reducible rfl)
    simp only [List.getElem_toArray, List.getElem_cons_succ, List.getElem_cons_zero, Act.put, List.setIfInBounds_toArray, List.set_cons_zero, List.set_cons_succ]
    refine wpAnyH_take (i := 21) (v := ?v21n95) rfl (by kernel_rfl) (by kernel_rfl) (by kernel_rfl) (fun _ _ _ h => h) (Or.inl ⟨by rfl, ?y21n95⟩) HS.out ?r21n95
    case y21n95 => (intro w' hSw; clear hSw; go_simp; try with_reducible rfl)
    simp only [List.getElem_toArray, List.getElem_cons_succ, List.getElem_cons_zero, Act.put, List.setIfInBounds_toArray, List.set_cons_zero, List.set_cons_succ]
    refine wpAnyH_ready (rs := [16]) (by kernel_rfl) (by simp) ?_
    refine AllReadyH.cons rfl (fun K hK => ?_) AllReadyH.nil
    simp only [List.getElem_toArray, List.getElem_cons_succ, List.getElem_cons_zero]
    go_simp
    refine (label_any s A A3 a x na ca nx cx N wd (HT.out.below HB3.out h2) ((HRa.out.below HB3.out).more hsd) (HNa.out ()) hla hxa (by omega) ((HRx.out.below HB3.out).more hsd) (HNx.out ()) HCx.out (by omega) hs hmx).mono ?_
    rintro e' w5 ⟨h5, rfl, hown5, hB5⟩
    rw [HI.out ()] at hown5
    have HO5 := Lib.hid hown5; have HO125 := Lib.hid (own_below HO12.out hB5 (Nat.le_refl _)); have HO25 := Lib.hid (own_below HO2.out hB5 (Nat.le_refl _)); have HB5 := Lib.hid (HB3.out.trans (hB5.mono hsd))
    clear hown5 hB5
    have hc2 := conv_own HO25.out
    have HS5 := Lib.hid (And.intro (conv_own HO125.out) hc2)
    clear hc2
    refine hK.out _ _ HS5.out (fun _ => ?_)
    clear hK K
    try simp only [List.getElem_toArray, List.getElem_cons_succ, List.getElem_cons_zero, Act.put, List.setIfInBounds_toArray, List.set_cons_zero, List.set_cons_succ]
    have hs5 := HB5.out.size
    obtain ⟨E, hE⟩ : ∃ E, expand a I N = E := ⟨_, rfl⟩
    rw [hE] at HO5
    have HE := Lib.hid (fun _ : Unit => hE); clear hE
    have HS6 := Lib.hid (conv_own HO5.out)
    refine wpAnyH_more (S' := fun w' => ((convert 22 9 (.slice (some ⟨h1, 0, none⟩) n1 c1)).run Tryd.prog w' = .ok (.string (txt I)) w' ∧ (convert 22 9 (.slice (some ⟨h2', 0, none⟩) n2 c2)).run Tryd.prog w' = .ok (.string (txt J)) w') ∧ (convert 22 9 (.slice (some ⟨h5, 0, none⟩) N N)).run Tryd.prog w' = .ok (.string (txt E)) w') (fun _ h => h.1) _ _ _ _ ?_
    refine wpAnyH_take (i := 17) (v := ?v17n96) rfl (by kernel_rfl) (by kernel_rfl) (by kernel_rfl) (fun _ _ _ h => h) (Or.inl ⟨by rfl, ?y17n96⟩) ⟨HS5.out, HS6.out⟩ ?r17n96
    case y17n96 => (intro w' hSw; have s1 := hSw.2; (try dsimp only at s1); clear hSw; go_simp; try with_reducible rfl)
    simp only [List.getElem_toArray, List.getElem_cons_succ, List.getElem_cons_zero, Act.put, List.setIfInBounds_toArray, List.set_cons_zero, List.set_cons_succ]
    refine wpAnyH_ready (rs := [22]) (by kernel_rfl) (by simp) ?_
    refine AllReadyH.cons rfl (fun K hK => ?_) AllReadyH.nil
    simp only [List.getElem_toArray, List.getElem_cons_succ, List.getElem_cons_zero]
    go_simp
    refine (expand_any A (some ⟨h1, 0, none⟩) a I na ca n1 c1 N w5 (HT.out.below HB5.out h2) ((HRa.out.below HB5.out).more hs5) (HNa.out ()) hla hxa (by omega) (rd_of_own HO125.out HIx.out (Nat.le_refl _)) (HL1.out ()) hcp1.1 hcp1.2 (by omega) (by omega)).mono ?_
    rintro e' w7 ⟨h7, rfl, hown7, hB7⟩
    rw [HE.out ()] at hown7
    have HO7 := Lib.hid hown7; have HO127 := Lib.hid (own_below HO125.out hB7 (Nat.le_refl _)); have HO27 := Lib.hid (own_below HO25.out hB7 (Nat.le_refl _)); have HO57 := Lib.hid (own_below HO5.out hB7 (Nat.le_refl _)); have HB7 := Lib.hid (HB5.out.trans (hB7.mono hs5))
    clear hown7 hB7
    have hc2 := conv_own HO27.out
    have HS7 := Lib.hid (And.intro (And.intro (conv_own HO127.out) hc2) (conv_own HO57.out))
    clear hc2
    refine hK.out _ _ HS7.out (fun _ => ?_)
    clear hK K
    try simp only [List.getElem_toArray, List.getElem_cons_succ, List.getElem_cons_zero, Act.put, List.setIfInBounds_toArray, List.set_cons_zero, List.set_cons_succ]
    have HS8 := Lib.hid (conv_own HO7.out)
    refine wpAnyH_more (S' := fun w' => (((convert 22 9 (.slice (some ⟨h1, 0, none⟩) n1 c1)).run Tryd.prog w' = .ok (.string (txt I)) w' ∧ (convert 22 9 (.slice (some ⟨h2', 0, none⟩) n2 c2)).run Tryd.prog w' = .ok (.string (txt J)) w') ∧ (convert 22 9 (.slice (some ⟨h5, 0, none⟩) N N)).run Tryd.prog w' = .ok (.string (txt E)) w') ∧ (convert 22 9 (.slice (some ⟨h7, 0, none⟩) N N)).run Tryd.prog w' = .ok (.string (txt E)) w') (fun _ h => h.1) _ _ _ _ ?_
    refine wpAnyH_take (i := 23) (v := ?v23n97) rfl (by kernel_rfl) (by kernel_rfl) (by kernel_rfl) (fun _ _ _ h => h) (Or.inl ⟨by rfl, ?y23n97⟩) ⟨HS7.out, HS8.out⟩ ?r23n97
    case y23n97 => (intro w' hSw; have s1 := hSw.2; (try dsimp only at s1); clear hSw; go_simp; try with_reducible rfl)
    simp only [List.getElem_toArray, List.getElem_cons_succ, List.getElem_cons_zero, Act.put, List.setIfInBounds_toArray, List.set_cons_zero, List.set_cons_succ]
    refine wpAnyH_take (i := 24) (v := ?v24n98) rfl (by kernel_rfl) (by kernel_rfl) (by kernel_rfl) (fun _ _ _ h => h) (Or.inl ⟨by rfl, ?y24n98⟩) ⟨HS7.out, HS8.out⟩ ?r24n98
    case y24n98 => (intro w' hSw; clear hSw; go_simp; try with_reducible rfl)
    simp only [List.getElem_toArray, List.getElem_cons_succ, List.getElem_cons_zero, Act.put, List.setIfInBounds_toArray, List.set_cons_zero, List.set_cons_succ]
    refine wpAnyH_take (i := 25) (v := ?v25n99) rfl (by kernel_rfl) (by kernel_rfl) (by kernel_rfl) (fun _ _ _ h => h) (Or.inl ⟨by rfl, ?y25n99⟩) ⟨HS7.out, HS8.out⟩ ?r25n99
    case y25n99 => (intro w' hSw; clear hSw; go_simp; try with_reducible rfl)
    simp only [List.getElem_toArray, List.getElem_cons_succ, List.getElem_cons_zero, Act.put, List.setIfInBounds_toArray, List.set_cons_zero, List.set_cons_succ]
    refine wpAnyH_take (i := 26) (v := ?v26n100) rfl (by kernel_rfl) (by kernel_rfl) (by kernel_rfl) (fun _ _ _ h => h) (Or.inl ⟨by rfl, ?y26n100⟩) ⟨HS7.out, HS8.out⟩ ?r26n100
    case y26n100 => (intro w' hSw; clear hSw; go_simp; try with_reducible rfl)
    simp only [List.getElem_toArray, List.getElem_cons_succ, List.getElem_cons_zero, Act.put, List.setIfInBounds_toArray, List.set_cons_zero, List.set_cons_succ]
    refine wpAnyH_done (by kernel_rfl) ?_ _
    change Exit.then _ _ Exit.normal _ _
    go_wp2
    go_ret
    exact ⟨rfl, HB7.out⟩

set_option maxHeartbeats 1000000 in
theorem infos_great (s t : ByteArray) (A A3 A4 : Option Addr) (na nx ny ca cx cy N M : Nat) (w : World) (hT : Tables w) (h : 17000 < na ∨ 40 < s.size ∨ 40 < t.size ∨ 16000 < nx ∨ 16000 < ny) :
    Calls Tryd.prog 7 #[.slice A na ca, .string s, .string t, .slice A3 nx cx, .slice A4 ny cy, .int .u8 N, .int .u8 M] w fun e w' => e = .returned (.bool true) ∧ Below w.heap.size w w' := by
  have HT := Lib.hid hT; clear hT
  go_enter Tryd.func7, Tryd.ntmps7
  go_wp2_with fail
  refine (head_any _ HT.out).mono ?_
  rintro e' w1 ⟨rfl, hB1⟩
  have HB1 := Lib.hid hB1; clear hB1
  by_cases ha : 17000 < na
  · go_wp2_with fail
    refine (great_yes _ _ _ _ ha).mono ?_
    rintro e' w2 ⟨rfl, rfl⟩
    go_wp2
    go_ret
    exact ⟨rfl, HB1.out⟩
  · go_wp2_with fail
    refine (great_no _ _ _ _ (by omega)).mono ?_
    rintro e' w2 ⟨rfl, rfl⟩
    by_cases h1 : 40 < s.size
    · have y1 : (40 : Int) < (s.size : Int) := by omega
      go_wp2
      go_ret
      exact ⟨rfl, HB1.out⟩
    · have y1 : ¬ (40 : Int) < (s.size : Int) := by omega
      by_cases h2 : 40 < t.size
      · have y2 : (40 : Int) < (t.size : Int) := by omega
        go_wp2
        go_ret
        exact ⟨rfl, HB1.out⟩
      · have y2 : ¬ (40 : Int) < (t.size : Int) := by omega
        by_cases h3 : 16000 < nx
        · have y3 : (16000 : Int) < (nx : Int) := by omega
          go_wp2
          go_ret
          exact ⟨rfl, HB1.out⟩
        · have y3 : ¬ (16000 : Int) < (nx : Int) := by omega
          have y4 : (16000 : Int) < (ny : Int) := by omega
          go_wp2
          go_ret
          exact ⟨rfl, HB1.out⟩

theorem hkdfInfos_walk (a0 : Option Addr) (len0 cap0 : Nat) (z0 : List Int) (a1 : ByteArray) (a2 : ByteArray) (a3 : Option Addr) (len3 cap3 : Nat) (z3 : List Int) (a4 : Option Addr) (len4 cap4 : Nat) (z4 : List Int) (a5 : Int) (a6 : Int) (w : World) (hT : Tables w) (w0 : IsRow .u8 w a0 len0 cap0 z0) (w1 : a1.size ≤ maxLen) (w2 : a2.size ≤ maxLen) (w3 : IsRow .u8 w a3 len3 cap3 z3) (w4 : IsRow .u8 w a4 len4 cap4 z4) (w5 : (Lit.int .u8 a5).wf = true) (w6 : (Lit.int .u8 a6).wf = true) :
    Calls Tryd.prog 7 #[.slice a0 len0 cap0, .string a1, .string a2, .slice a3 len3 cap3, .slice a4 len4 cap4, .int .u8 a5, .int .u8 a6] w fun e w' => e = .returned (.bool true) ∧ Below w.heap.size w w' := by
  obtain ⟨r0, n0, m0, c0, x0⟩ := rd_of_row w0
  obtain ⟨r3, n3, m3, c3, x3⟩ := rd_of_row w3
  obtain ⟨r4, n4, m4, c4, x4⟩ := rd_of_row w4
  obtain ⟨k5, rfl, h5⟩ := byte_of_wf w5
  obtain ⟨k6, rfl, h6⟩ := byte_of_wf w6
  by_cases h : 17000 < len0 ∨ 40 < a1.size ∨ 40 < a2.size ∨ 16000 < len3 ∨ 16000 < len4
  · exact infos_great a1 a2 a0 a3 a4 len0 len3 len4 cap0 cap3 cap4 k5 k6 w hT h
  · exact infos_walk a1 a2 a0 a3 a4 _ _ _ len0 len3 len4 cap0 cap3 cap4 k5 k6 w hT r0 r3 r4 n0 n3 n4 m0 c0 x3 x4 (by omega) (by omega) (by omega) (by omega) (by omega) h5 h6
end Go.Proofs.YtfcnhendebjjeaaDoor.Sha
