/- Walks: HkdfKeys. -/
import Derived.Test.YtfcnhendebjjeaaDoorHkParts
namespace Go.Proofs.YtfcnhendebjjeaaDoor.Sha
set_option linter.all false
open Go.RowKit Iter
attribute [local go_sem ↓] Go.wp_at_zero Go.wp_at_succ

def zeros (j : Nat) : List Nat := List.replicate j 0
theorem gt_zeros (a : List Nat) (j i : Nat) : gt (a ++ zeros j) i = gt a i := by
  rw [gt_append]
  split
  · rfl
  · rw [gt_ge a _ (by omega)]
    unfold gt zeros
    rw [List.getD_eq_getElem?_getD, List.getElem?_replicate]
    split <;> rfl
theorem blockK_zeros (a : List Nat) (j : Nat) (h : a.length + j ≤ 64) : blockK (a ++ zeros j) = blockK a := by
  have h1 : keyed (a ++ zeros j) = a ++ zeros j := by unfold keyed; rw [if_neg (by simp [zeros]; omega)]
  have h2 : keyed a = a := by unfold keyed; rw [if_neg (by omega)]
  unfold blockK
  rw [h1, h2]
  refine ext_gt (tab_len _ _) (tab_len _ _) fun i hi => ?_
  rw [gt_tab _ _ _ hi, gt_tab _ _ _ hi, gt_zeros]
theorem mac_zeros (a t : List Nat) (j : Nat) (h : a.length + j ≤ 64) : mac (a ++ zeros j) t = mac a t := by
  unfold mac; rw [blockK_zeros a j h]
theorem zeros_succ (a : List Nat) (j : Nat) : a ++ (zeros j ++ [0]) = a ++ zeros (j + 1) := by
  unfold zeros; rw [List.replicate_succ']
theorem zeros_lt {a : List Nat} (h : ∀ i, gt a i < 256) (j : Nat) : ∀ i, gt (a ++ zeros j) i < 256 := fun i => by rw [gt_zeros]; exact h i

set_option maxHeartbeats 8000000 in
set_option maxRecDepth 100000 in
theorem keys_walk (A A2 : Option Addr) (a b : List Nat) (na nb ca cb N : Nat) (w : World) (hT : Tables w) (hRa : Rd w w.heap.size A a) (hRb : Rd w w.heap.size A2 b) (hna : a.length = na) (hnb : b.length = nb)
    (hla : na ≤ ca) (hlb : nb ≤ cb) (hxa : ca ≤ 9223372036854775807) (hxb : cb ≤ 9223372036854775807) (hca : A = none → ca = 0) (hma : na ≤ 64) (hmb : nb ≤ 17000) (hN : N < 256) :
    Calls Tryd.prog 6 #[.slice A na ca, .slice A2 nb cb, .int .u8 N] w fun e w' => e = .returned (.bool true) ∧ Below w.heap.size w w' := by
  have h2 := hT.lt
  have HT := Lib.hid hT; have HRa := Lib.hid hRa; have HRb := Lib.hid hRb; have HNa := Lib.hid (fun _ : Unit => hna); have HNb := Lib.hid (fun _ : Unit => hnb); have HCa := Lib.hid hca
  clear hT hRa hRb hna hnb hca
  have x1 : IntKind.i64.wrap (N : Int) = (N : Int) := by rw [IntKind.wrap_i64]; omega
  have y1 : ¬ (64 : Int) < (na : Int) := by omega
  go_enter Tryd.func6, Tryd.ntmps6
  go_wp2_with fail
  refine (head_any _ HT.out).mono ?_
  rintro e' w1 ⟨rfl, hB1⟩
  have HB1 := Lib.hid hB1; clear hB1
  go_wp2_with fail
  refine (great_no _ _ _ _ (by omega)).mono ?_
  rintro e' w2 ⟨rfl, rfl⟩
  go_wp2_with fail
  refine (great_no _ _ _ _ hmb).mono ?_
  rintro e' w2 ⟨rfl, rfl⟩
  have hs1 := HB1.out.size
  have HNIL := Lib.hid (nil_own w1 (base := w1.heap.size) (Nat.le_refl _))
  have HB1a := Lib.hid (HB1.out.alloc hs1 (.cells #[] 5))
  have HRa1 := Lib.hid (HRa.out.below HB1a.out)
  go_wp2_with (at_builtin; refine wpList_append_rd rfl (.tmp 23) (.tmp 24) rfl w1.heap.size w1.heap.size 0 0 na ca w.heap.size [] a A rfl rfl HNIL.out HRa1.out (HNa.out ()) HCa.out (by omega) (by simp) ?_)
  intro g3 cap3 w3 hown hgrow hat
  try simp only [Nat.zero_add, List.nil_append] at hown
  have HO3 := Lib.hid hown; have HB3 := Lib.hid (below_of_only HB1a.out hgrow hs1); have HC3 := Lib.hid (below_of_only ((Below.refl w1.heap.size w1).alloc (Nat.le_refl _) (.cells #[] 5)) hgrow (Nat.le_refl _))
  clear hown hgrow hat HNIL HB1a HRa1
  go_wp2_with fail
  go_loopw [8, 9] (fun v i W => ∃ j g n cap : Nat, i = .int .i64 j ∧ v = .slice (some ⟨g, 0, none⟩) n cap ∧ j ≤ N ∧ n ≤ 64 ∧ na + j ≤ n ∧ n ≤ na + j ∧ Hid (W.ownsRow w1.heap.size 5 1 (.slice (some ⟨g, 0, none⟩) n cap) n (bcells (a ++ zeros j))) ∧ Hid (Below w1.heap.size w1 W)) (fun _ i _ => N - (intOf i).toNat)
  case atStart => exact ⟨0, g3, na, cap3, rfl, rfl, by omega, by omega, by omega, by omega, Lib.hid (by rw [show zeros 0 = [] from rfl, List.append_nil]; exact HO3.out), HC3⟩
  case round =>
    obtain ⟨j, g, n, cap, rfl, rfl, hjN, hn64, hnj, hnj', HO4, HC4⟩ := hrel
    have hg4 := HO4.out.lt _ rfl
    by_cases hj : j < N
    · by_cases hn : n < 64
      · have yj : (j : Int) < (N : Int) := by omega
        have yn : (n : Int) < 64 := by omega
        have HBy := Lib.hid (byte_rd wr 0 0 rfl (by omega) (B := wr.heap.size + 1) (by omega))
        have HO4a := Lib.hid (own_below HO4.out ((Below.refl wr.heap.size wr).alloc (Nat.le_refl _) (.cells #[.int .u8 0] 5)) (Nat.le_refl _))
        have HC4a := Lib.hid (HC4.out.alloc HC4.out.size (.cells #[.int .u8 0] 5))
        go_wp2_with (at_builtin; refine wpList_append_rd rfl (.tmp 37) (.tmp 38) rfl w1.heap.size g n cap 1 1 (wr.heap.size + 1) (a ++ zeros j) [0] (some ⟨wr.heap.size, 0, none⟩) rfl rfl HO4a.out HBy.out rfl (fun e => by cases e) (by omega) HC4a.out.size ?_)
        intro g5 cap5 w5 hown hgrow hat
        rw [zeros_succ] at hown
        have HO5 := Lib.hid hown; have HC5 := Lib.hid (below_of_only HC4a.out hgrow hg4.1)
        clear hown hgrow hat
        go_wp2
        go_roundw
        case rel => exact ⟨j + 1, g5, n + 1, cap5, by go_num, rfl, by omega, by omega, by omega, by omega, HO5, HC5⟩
        case measure => simp [intOf]; omega
      · have yj : (j : Int) < (N : Int) := by omega
        have yn : ¬ (n : Int) < 64 := by omega
        go_wp2_with fail
        have HBd := Lib.hid (HB1.out.trans (HC4.out.mono hs1))
        have HMM := Lib.hid (fun _ : Unit => mac_zeros a b j (by rw [HNa.out ()]; omega))
        have hcp := own_cap HO4.out
        unfold maxLen at hcp
        have HLk : Hid (Unit → (a ++ zeros j).length = n) := Lib.hid fun _ => by rw [List.length_append, HNa.out ()]; simp [zeros]; omega
        have HLT := Lib.hid (zeros_lt HRa.out.1 j)
        refine region_calm ?_
        refine wp_region_any (by kernel_rfl) ?_
        change wpAny _ _ _ _ _ _ _ (World.drew _)
        replace HO4 := Lib.hid HO4.out.drew; replace HBd := Lib.hid HBd.out.drew
        generalize wr.drew = wd at *
        have hsd := HBd.out.size
        refine wpAny_take (i := 0) (v := ?v0n1) rfl (by kernel_rfl) (by kernel_rfl) (by kernel_rfl) (fun _ _ _ h => h) (Or.inl ⟨by rfl, ?y0n1⟩) ?r0n1
        case y0n1 => (intro w'; go_simp; try with_reducible rfl)
        simp only [List.getElem_toArray, List.getElem_cons_succ, List.getElem_cons_zero, Act.put, List.setIfInBounds_toArray, List.set_cons_zero, List.set_cons_succ]
        refine wpAny_take (i := 1) (v := ?v1n2) rfl (by kernel_rfl) (by kernel_rfl) (by kernel_rfl) (fun _ _ _ h => h) (Or.inl ⟨by rfl, ?y1n2⟩) ?r1n2
        case y1n2 => (intro w'; go_simp; try with_reducible rfl)
        simp only [List.getElem_toArray, List.getElem_cons_succ, List.getElem_cons_zero, Act.put, List.setIfInBounds_toArray, List.set_cons_zero, List.set_cons_succ]
        refine wpAny_take (i := 2) (v := ?v2n3) rfl (by kernel_rfl) (by kernel_rfl) (by kernel_rfl) (fun _ _ _ h => h) (Or.inl ⟨by rfl, ?y2n3⟩) ?r2n3
        case y2n3 => (intro w'; go_simp; try with_reducible rfl)
        simp only [List.getElem_toArray, List.getElem_cons_succ, List.getElem_cons_zero, Act.put, List.setIfInBounds_toArray, List.set_cons_zero, List.set_cons_succ]
        refine wpAny_take (i := 3) (v := ?v3n4) rfl (by kernel_rfl) (by kernel_rfl) (by kernel_rfl) (fun _ _ _ h => h) (Or.inl ⟨by rfl, ?y3n4⟩) ?r3n4
        case y3n4 => (intro w'; go_simp; try with_reducible rfl)
        simp only [List.getElem_toArray, List.getElem_cons_succ, List.getElem_cons_zero, Act.put, List.setIfInBounds_toArray, List.set_cons_zero, List.set_cons_succ]
        refine wpAny_take (i := 6) (v := ?v6n5) rfl (by kernel_rfl) (by kernel_rfl) (by kernel_rfl) (fun _ _ _ h => h) (Or.inl ⟨by rfl, ?y6n5⟩) ?r6n5
        case y6n5 => (intro w'; go_simp; try with_reducible rfl)
        simp only [List.getElem_toArray, List.getElem_cons_succ, List.getElem_cons_zero, Act.put, List.setIfInBounds_toArray, List.set_cons_zero, List.set_cons_succ]
        refine wpAny_take (i := 7) (v := ?v7n6) rfl (by kernel_rfl) (by kernel_rfl) (by kernel_rfl) (fun _ _ _ h => h) (Or.inl ⟨by rfl, ?y7n6⟩) ?r7n6
        case y7n6 => (intro w'; go_simp; try with_reducible rfl)
        simp only [List.getElem_toArray, List.getElem_cons_succ, List.getElem_cons_zero, Act.put, List.setIfInBounds_toArray, List.set_cons_zero, List.set_cons_succ]
        refine wpAny_ready (rs := [4]) (by kernel_rfl) (by simp) ?_
        refine AllReady.cons rfl (fun K hK => ?_) AllReady.nil
        simp only [List.getElem_toArray, List.getElem_cons_succ, List.getElem_cons_zero]
        go_simp
        refine (mac_any (some ⟨g, 0, none⟩) A2 (a ++ zeros j) b n cap nb cb wd (HT.out.below HBd.out h2) (rd_of_own HO4.out HLT.out (Nat.le_refl _)) (HLk.out ()) hcp.1 hcp.2 (by omega) ((HRb.out.below HBd.out).more hsd) (HNb.out ()) hlb hxb (by omega)).mono ?_
        rintro e' w5 ⟨h5, c5, rfl, hown5, hB5⟩
        rw [HMM.out ()] at hown5
        have HO5 := Lib.hid hown5; have HO45 := Lib.hid (own_below HO4.out hB5 (Nat.le_refl _)); have HB5 := Lib.hid (HBd.out.trans (hB5.mono hsd))
        clear hown5 hB5
        refine hK _ _ ?_
        clear hK K
        try simp only [List.getElem_toArray, List.getElem_cons_succ, List.getElem_cons_zero, Act.put, List.setIfInBounds_toArray, List.set_cons_zero, List.set_cons_succ]
        have hs5 := HB5.out.size
        have HS5 := Lib.hid (conv_own HO5.out)
        refine wpAny_of_held (S := fun w' => (convert 22 9 (.slice (some ⟨h5, 0, none⟩) 32 c5)).run Tryd.prog w' = .ok (.string (txt (mac a b))) w') _ _ _ _ ?_
        refine wpAnyH_take (i := 5) (v := ?v5n7) rfl (by kernel_rfl) (by kernel_rfl) (by kernel_rfl) (fun _ _ _ h => h) (Or.inl ⟨by rfl, ?y5n7⟩) HS5.out ?r5n7
        case y5n7 => (intro w' hSw; have s1 := hSw; (try dsimp only at s1); clear hSw; go_simp; try with_reducible rfl)
        simp only [List.getElem_toArray, List.getElem_cons_succ, List.getElem_cons_zero, Act.put, List.setIfInBounds_toArray, List.set_cons_zero, List.set_cons_succ]
        refine wpAnyH_ready (rs := [8]) (by kernel_rfl) (by simp) ?_
        refine AllReadyH.cons rfl (fun K hK => ?_) AllReadyH.nil
        simp only [List.getElem_toArray, List.getElem_cons_succ, List.getElem_cons_zero]
        go_simp
        refine (mac_any A A2 a b na ca nb cb w5 (HT.out.below HB5.out h2) ((HRa.out.below HB5.out).more hs5) (HNa.out ()) hla hxa (by omega) ((HRb.out.below HB5.out).more hs5) (HNb.out ()) hlb hxb (by omega)).mono ?_
        rintro e' w6 ⟨h6, c6, rfl, hown6, hB6⟩
        have HO6 := Lib.hid hown6; have HO46 := Lib.hid (own_below HO45.out hB6 (Nat.le_refl _)); have HO56 := Lib.hid (own_below HO5.out hB6 (Nat.le_refl _)); have HB6 := Lib.hid (HB5.out.trans (hB6.mono hs5))
        clear hown6 hB6
        refine hK.out _ _ (conv_own HO56.out) (fun _ => ?_)
        clear hK K
        try simp only [List.getElem_toArray, List.getElem_cons_succ, List.getElem_cons_zero, Act.put, List.setIfInBounds_toArray, List.set_cons_zero, List.set_cons_succ]
        have hs6 := HB6.out.size
        have HS6 := Lib.hid (And.intro (conv_own HO56.out) (conv_own HO6.out))
        refine wpAnyH_more (S' := fun w' => (convert 22 9 (.slice (some ⟨h5, 0, none⟩) 32 c5)).run Tryd.prog w' = .ok (.string (txt (mac a b))) w' ∧ (convert 22 9 (.slice (some ⟨h6, 0, none⟩) 32 c6)).run Tryd.prog w' = .ok (.string (txt (mac a b))) w') (fun _ h => h.1) _ _ _ _ ?_
        refine wpAnyH_take (i := 9) (v := ?v9n8) rfl (by kernel_rfl) (by kernel_rfl) (by kernel_rfl) (fun _ _ _ h => h) (Or.inl ⟨by rfl, ?y9n8⟩) HS6.out ?r9n8
        case y9n8 => (intro w' hSw; have s1 := hSw.2; (try dsimp only at s1); clear hSw; go_simp; try with_reducible rfl)
        simp only [List.getElem_toArray, List.getElem_cons_succ, List.getElem_cons_zero, Act.put, List.setIfInBounds_toArray, List.set_cons_zero, List.set_cons_succ]
        refine wpAnyH_take (i := 10) (v := ?v10n9) rfl (by kernel_rfl) (by kernel_rfl) (by kernel_rfl) (fun _ _ _ h => h) (Or.inl ⟨by rfl, ?y10n9⟩) HS6.out ?r10n9
        case y10n9 => (intro w' hSw; clear hSw; go_simp; try with_reducible rfl)
        simp only [List.getElem_toArray, List.getElem_cons_succ, List.getElem_cons_zero, Act.put, List.setIfInBounds_toArray, List.set_cons_zero, List.set_cons_succ]
        refine wpAnyH_take (i := 11) (v := ?v11n10) rfl (by kernel_rfl) (by kernel_rfl) (by kernel_rfl) (fun _ _ _ h => h) (Or.inl ⟨by rfl, ?y11n10⟩) HS6.out ?r11n10
        case y11n10 => (intro w' hSw; clear hSw; go_simp; try with_reducible rfl)
        simp only [List.getElem_toArray, List.getElem_cons_succ, List.getElem_cons_zero, Act.put, List.setIfInBounds_toArray, List.set_cons_zero, List.set_cons_succ]
        refine wpAnyH_take (i := 12) (v := ?v12n11) rfl (by kernel_rfl) (by kernel_rfl) (by kernel_rfl) (fun _ _ _ h => h) (Or.inl ⟨by rfl, ?y12n11⟩) HS6.out ?r12n11
        case y12n11 => (intro w' hSw; clear hSw; go_simp; try with_reducible rfl)
        simp only [List.getElem_toArray, List.getElem_cons_succ, List.getElem_cons_zero, Act.put, List.setIfInBounds_toArray, List.set_cons_zero, List.set_cons_succ]
        refine wpAnyH_take (i := 13) (v := ?v13n12) rfl (by kernel_rfl) (by kernel_rfl) (by kernel_rfl) (fun _ _ _ h => h) (Or.inl ⟨by rfl, ?y13n12⟩) HS6.out ?r13n12
        case y13n12 => (intro w' hSw; clear hSw; go_simp; try with_reducible rfl)
        simp only [List.getElem_toArray, List.getElem_cons_succ, List.getElem_cons_zero, Act.put, List.setIfInBounds_toArray, List.set_cons_zero, List.set_cons_succ]
        refine wpAnyH_take (i := 14) (v := ?v14n13) rfl (by kernel_rfl) (by kernel_rfl) (by kernel_rfl) (fun _ _ _ h => h) (Or.inl ⟨by rfl, ?y14n13⟩) HS6.out ?r14n13
        case y14n13 => (intro w' hSw; clear hSw; go_simp; try with_reducible rfl)
        simp only [List.getElem_toArray, List.getElem_cons_succ, List.getElem_cons_zero, Act.put, List.setIfInBounds_toArray, List.set_cons_zero, List.set_cons_succ]
        refine wpAnyH_take (i := 17) (v := ?v17n14) rfl (by kernel_rfl) (by kernel_rfl) (by kernel_rfl) (fun _ _ _ h => h) (Or.inl ⟨by rfl, ?y17n14⟩) HS6.out ?r17n14
        case y17n14 => (intro w' hSw; clear hSw; go_simp; try with_reducible rfl)
        simp only [List.getElem_toArray, List.getElem_cons_succ, List.getElem_cons_zero, Act.put, List.setIfInBounds_toArray, List.set_cons_zero, List.set_cons_succ]
        refine wpAnyH_take (i := 18) (v := ?v18n15) rfl (by kernel_rfl) (by kernel_rfl) (by kernel_rfl) (fun _ _ _ h => h) (Or.inl ⟨by rfl, ?y18n15⟩) HS6.out ?r18n15
        case y18n15 => (intro w' hSw; clear hSw; go_simp; try with_reducible rfl)
        simp only [List.getElem_toArray, List.getElem_cons_succ, List.getElem_cons_zero, Act.put, List.setIfInBounds_toArray, List.set_cons_zero, List.set_cons_succ]
        refine wpAnyH_ready (rs := [15]) (by kernel_rfl) (by simp) ?_
        refine AllReadyH.cons rfl (fun K hK => ?_) AllReadyH.nil
        simp only [List.getElem_toArray, List.getElem_cons_succ, List.getElem_cons_zero]
        go_simp
        refine (extract_any (some ⟨g, 0, none⟩) A2 (a ++ zeros j) b n cap nb cb w6 (HT.out.below HB6.out h2) (rd_of_own HO46.out HLT.out (Nat.le_refl _)) (HLk.out ()) hcp.1 hcp.2 (by omega) ((HRb.out.below HB6.out).more hs6) (HNb.out ()) hlb hxb (by omega)).mono ?_
        rintro e' w7 ⟨h7, c7, rfl, hown7, hB7⟩
        rw [HMM.out ()] at hown7
        have HO7 := Lib.hid hown7; have HO57 := Lib.hid (own_below HO56.out hB7 (Nat.le_refl _)); have HO67 := Lib.hid (own_below HO6.out hB7 (Nat.le_refl _)); have HB7 := Lib.hid (HB6.out.trans (hB7.mono hs6))
        clear hown7 hB7
        refine hK.out _ _ ⟨conv_own HO57.out, conv_own HO67.out⟩ (fun _ => ?_)
        clear hK K
        try simp only [List.getElem_toArray, List.getElem_cons_succ, List.getElem_cons_zero, Act.put, List.setIfInBounds_toArray, List.set_cons_zero, List.set_cons_succ]
        have hs7 := HB7.out.size
        have HS7 := Lib.hid (And.intro (And.intro (conv_own HO57.out) (conv_own HO67.out)) (conv_own HO7.out))
        refine wpAnyH_more (S' := fun w' => ((convert 22 9 (.slice (some ⟨h5, 0, none⟩) 32 c5)).run Tryd.prog w' = .ok (.string (txt (mac a b))) w' ∧ (convert 22 9 (.slice (some ⟨h6, 0, none⟩) 32 c6)).run Tryd.prog w' = .ok (.string (txt (mac a b))) w') ∧ (convert 22 9 (.slice (some ⟨h7, 0, none⟩) 32 c7)).run Tryd.prog w' = .ok (.string (txt (mac a b))) w') (fun _ h => h.1) _ _ _ _ ?_
        refine wpAnyH_take (i := 16) (v := ?v16n16) rfl (by kernel_rfl) (by kernel_rfl) (by kernel_rfl) (fun _ _ _ h => h) (Or.inl ⟨by rfl, ?y16n16⟩) HS7.out ?r16n16
        case y16n16 => (intro w' hSw; have s1 := hSw.2; (try dsimp only at s1); clear hSw; go_simp; try with_reducible rfl)
        simp only [List.getElem_toArray, List.getElem_cons_succ, List.getElem_cons_zero, Act.put, List.setIfInBounds_toArray, List.set_cons_zero, List.set_cons_succ]
        refine wpAnyH_ready (rs := [19]) (by kernel_rfl) (by simp) ?_
        refine AllReadyH.cons rfl (fun K hK => ?_) AllReadyH.nil
        simp only [List.getElem_toArray, List.getElem_cons_succ, List.getElem_cons_zero]
        go_simp
        refine (mac_any A A2 a b na ca nb cb w7 (HT.out.below HB7.out h2) ((HRa.out.below HB7.out).more hs7) (HNa.out ()) hla hxa (by omega) ((HRb.out.below HB7.out).more hs7) (HNb.out ()) hlb hxb (by omega)).mono ?_
        rintro e' w8 ⟨h8, c8, rfl, hown8, hB8⟩
        have HO8 := Lib.hid hown8; have HO58 := Lib.hid (own_below HO57.out hB8 (Nat.le_refl _)); have HO68 := Lib.hid (own_below HO67.out hB8 (Nat.le_refl _)); have HO78 := Lib.hid (own_below HO7.out hB8 (Nat.le_refl _)); have HB8 := Lib.hid (HB7.out.trans (hB8.mono hs7))
        clear hown8 hB8
        refine hK.out _ _ ⟨⟨conv_own HO58.out, conv_own HO68.out⟩, conv_own HO78.out⟩ (fun _ => ?_)
        clear hK K
        try simp only [List.getElem_toArray, List.getElem_cons_succ, List.getElem_cons_zero, Act.put, List.setIfInBounds_toArray, List.set_cons_zero, List.set_cons_succ]
        have HS8 := Lib.hid (And.intro (And.intro (And.intro (conv_own HO58.out) (conv_own HO68.out)) (conv_own HO78.out)) (conv_own HO8.out))
        refine wpAnyH_more (S' := fun w' => (((convert 22 9 (.slice (some ⟨h5, 0, none⟩) 32 c5)).run Tryd.prog w' = .ok (.string (txt (mac a b))) w' ∧ (convert 22 9 (.slice (some ⟨h6, 0, none⟩) 32 c6)).run Tryd.prog w' = .ok (.string (txt (mac a b))) w') ∧ (convert 22 9 (.slice (some ⟨h7, 0, none⟩) 32 c7)).run Tryd.prog w' = .ok (.string (txt (mac a b))) w') ∧ (convert 22 9 (.slice (some ⟨h8, 0, none⟩) 32 c8)).run Tryd.prog w' = .ok (.string (txt (mac a b))) w') (fun _ h => h.1) _ _ _ _ ?_
        refine wpAnyH_take (i := 20) (v := ?v20n17) rfl (by kernel_rfl) (by kernel_rfl) (by kernel_rfl) (fun _ _ _ h => h) (Or.inl ⟨by rfl, ?y20n17⟩) HS8.out ?r20n17
        case y20n17 => (intro w' hSw; have s1 := hSw.2; (try dsimp only at s1); clear hSw; go_simp; try with_reducible rfl)
        simp only [List.getElem_toArray, List.getElem_cons_succ, List.getElem_cons_zero, Act.put, List.setIfInBounds_toArray, List.set_cons_zero, List.set_cons_succ]
        refine wpAnyH_take (i := 21) (v := ?v21n18) rfl (by kernel_rfl) (by kernel_rfl) (by kernel_rfl) (fun _ _ _ h => h) (Or.inl ⟨by rfl, ?y21n18⟩) HS8.out ?r21n18
        case y21n18 => (intro w' hSw; clear hSw; go_simp; try with_reducible rfl)
        simp only [List.getElem_toArray, List.getElem_cons_succ, List.getElem_cons_zero, Act.put, List.setIfInBounds_toArray, List.set_cons_zero, List.set_cons_succ]
        refine wpAnyH_take (i := 22) (v := ?v22n19) rfl (by kernel_rfl) (by kernel_rfl) (by kernel_rfl) (fun _ _ _ h => h) (Or.inl ⟨by rfl, ?y22n19⟩) HS8.out ?r22n19
        case y22n19 => (intro w' hSw; clear hSw; go_simp; try with_reducible rfl)
        simp only [List.getElem_toArray, List.getElem_cons_succ, List.getElem_cons_zero, Act.put, List.setIfInBounds_toArray, List.set_cons_zero, List.set_cons_succ]
        refine wpAnyH_take (i := 23) (v := ?v23n20) rfl (by kernel_rfl) (by kernel_rfl) (by kernel_rfl) (fun _ _ _ h => h) (Or.inl ⟨by rfl, ?y23n20⟩) HS8.out ?r23n20
        case y23n20 => (intro w' hSw; clear hSw; go_simp; try with_reducible rfl)
        simp only [List.getElem_toArray, List.getElem_cons_succ, List.getElem_cons_zero, Act.put, List.setIfInBounds_toArray, List.set_cons_zero, List.set_cons_succ]
        refine wpAnyH_done (by kernel_rfl) ?_ _
        change Exit.then _ _ Exit.normal _ _
        go_wp2
        go_ret
        exact ⟨rfl, HB8.out⟩
    · have yj : ¬ (j : Int) < (N : Int) := by omega
      go_wp2_with fail
      have HBd := Lib.hid (HB1.out.trans (HC4.out.mono hs1))
      have HMM := Lib.hid (fun _ : Unit => mac_zeros a b j (by rw [HNa.out ()]; omega))
      have hcp := own_cap HO4.out
      unfold maxLen at hcp
      have HLk : Hid (Unit → (a ++ zeros j).length = n) := Lib.hid fun _ => by rw [List.length_append, HNa.out ()]; simp [zeros]; omega
      have HLT := Lib.hid (zeros_lt HRa.out.1 j)
      refine region_calm ?_
      refine wp_region_any (by kernel_rfl) ?_
      change wpAny _ _ _ _ _ _ _ (World.drew _)
      replace HO4 := Lib.hid HO4.out.drew; replace HBd := Lib.hid HBd.out.drew
      generalize wr.drew = wd at *
      have hsd := HBd.out.size
      refine wpAny_take (i := 0) (v := ?v0n21) rfl (by kernel_rfl) (by kernel_rfl) (by kernel_rfl) (fun _ _ _ h => h) (Or.inl ⟨by rfl, ?y0n21⟩) ?r0n21
      case y0n21 => (intro w'; go_simp; try with_reducible rfl)
      simp only [List.getElem_toArray, List.getElem_cons_succ, List.getElem_cons_zero, Act.put, List.setIfInBounds_toArray, List.set_cons_zero, List.set_cons_succ]
      refine wpAny_take (i := 1) (v := ?v1n22) rfl (by kernel_rfl) (by kernel_rfl) (by kernel_rfl) (fun _ _ _ h => h) (Or.inl ⟨by rfl, ?y1n22⟩) ?r1n22
      case y1n22 => (intro w'; go_simp; try with_reducible rfl)
      simp only [List.getElem_toArray, List.getElem_cons_succ, List.getElem_cons_zero, Act.put, List.setIfInBounds_toArray, List.set_cons_zero, List.set_cons_succ]
      refine wpAny_take (i := 2) (v := ?v2n23) rfl (by kernel_rfl) (by kernel_rfl) (by kernel_rfl) (fun _ _ _ h => h) (Or.inl ⟨by rfl, ?y2n23⟩) ?r2n23
      case y2n23 => (intro w'; go_simp; try with_reducible rfl)
      simp only [List.getElem_toArray, List.getElem_cons_succ, List.getElem_cons_zero, Act.put, List.setIfInBounds_toArray, List.set_cons_zero, List.set_cons_succ]
      refine wpAny_take (i := 3) (v := ?v3n24) rfl (by kernel_rfl) (by kernel_rfl) (by kernel_rfl) (fun _ _ _ h => h) (Or.inl ⟨by rfl, ?y3n24⟩) ?r3n24
      case y3n24 => (intro w'; go_simp; try with_reducible rfl)
      simp only [List.getElem_toArray, List.getElem_cons_succ, List.getElem_cons_zero, Act.put, List.setIfInBounds_toArray, List.set_cons_zero, List.set_cons_succ]
      refine wpAny_take (i := 6) (v := ?v6n25) rfl (by kernel_rfl) (by kernel_rfl) (by kernel_rfl) (fun _ _ _ h => h) (Or.inl ⟨by rfl, ?y6n25⟩) ?r6n25
      case y6n25 => (intro w'; go_simp; try with_reducible rfl)
      simp only [List.getElem_toArray, List.getElem_cons_succ, List.getElem_cons_zero, Act.put, List.setIfInBounds_toArray, List.set_cons_zero, List.set_cons_succ]
      refine wpAny_take (i := 7) (v := ?v7n26) rfl (by kernel_rfl) (by kernel_rfl) (by kernel_rfl) (fun _ _ _ h => h) (Or.inl ⟨by rfl, ?y7n26⟩) ?r7n26
      case y7n26 => (intro w'; go_simp; try with_reducible rfl)
      simp only [List.getElem_toArray, List.getElem_cons_succ, List.getElem_cons_zero, Act.put, List.setIfInBounds_toArray, List.set_cons_zero, List.set_cons_succ]
      refine wpAny_ready (rs := [4]) (by kernel_rfl) (by simp) ?_
      refine AllReady.cons rfl (fun K hK => ?_) AllReady.nil
      simp only [List.getElem_toArray, List.getElem_cons_succ, List.getElem_cons_zero]
      go_simp
      refine (mac_any (some ⟨g, 0, none⟩) A2 (a ++ zeros j) b n cap nb cb wd (HT.out.below HBd.out h2) (rd_of_own HO4.out HLT.out (Nat.le_refl _)) (HLk.out ()) hcp.1 hcp.2 (by omega) ((HRb.out.below HBd.out).more hsd) (HNb.out ()) hlb hxb (by omega)).mono ?_
      rintro e' w5 ⟨h5, c5, rfl, hown5, hB5⟩
      rw [HMM.out ()] at hown5
      have HO5 := Lib.hid hown5; have HO45 := Lib.hid (own_below HO4.out hB5 (Nat.le_refl _)); have HB5 := Lib.hid (HBd.out.trans (hB5.mono hsd))
      clear hown5 hB5
      refine hK _ _ ?_
      clear hK K
      try simp only [List.getElem_toArray, List.getElem_cons_succ, List.getElem_cons_zero, Act.put, List.setIfInBounds_toArray, List.set_cons_zero, List.set_cons_succ]
      have hs5 := HB5.out.size
      have HS5 := Lib.hid (conv_own HO5.out)
      refine wpAny_of_held (S := fun w' => (convert 22 9 (.slice (some ⟨h5, 0, none⟩) 32 c5)).run Tryd.prog w' = .ok (.string (txt (mac a b))) w') _ _ _ _ ?_
      refine wpAnyH_take (i := 5) (v := ?v5n27) rfl (by kernel_rfl) (by kernel_rfl) (by kernel_rfl) (fun _ _ _ h => h) (Or.inl ⟨by rfl, ?y5n27⟩) HS5.out ?r5n27
      case y5n27 => (intro w' hSw; have s1 := hSw; (try dsimp only at s1); clear hSw; go_simp; try with_reducible rfl)
      simp only [List.getElem_toArray, List.getElem_cons_succ, List.getElem_cons_zero, Act.put, List.setIfInBounds_toArray, List.set_cons_zero, List.set_cons_succ]
      refine wpAnyH_ready (rs := [8]) (by kernel_rfl) (by simp) ?_
      refine AllReadyH.cons rfl (fun K hK => ?_) AllReadyH.nil
      simp only [List.getElem_toArray, List.getElem_cons_succ, List.getElem_cons_zero]
      go_simp
      refine (mac_any A A2 a b na ca nb cb w5 (HT.out.below HB5.out h2) ((HRa.out.below HB5.out).more hs5) (HNa.out ()) hla hxa (by omega) ((HRb.out.below HB5.out).more hs5) (HNb.out ()) hlb hxb (by omega)).mono ?_
      rintro e' w6 ⟨h6, c6, rfl, hown6, hB6⟩
      have HO6 := Lib.hid hown6; have HO46 := Lib.hid (own_below HO45.out hB6 (Nat.le_refl _)); have HO56 := Lib.hid (own_below HO5.out hB6 (Nat.le_refl _)); have HB6 := Lib.hid (HB5.out.trans (hB6.mono hs5))
      clear hown6 hB6
      refine hK.out _ _ (conv_own HO56.out) (fun _ => ?_)
      clear hK K
      try simp only [List.getElem_toArray, List.getElem_cons_succ, List.getElem_cons_zero, Act.put, List.setIfInBounds_toArray, List.set_cons_zero, List.set_cons_succ]
      have hs6 := HB6.out.size
      have HS6 := Lib.hid (And.intro (conv_own HO56.out) (conv_own HO6.out))
      refine wpAnyH_more (S' := fun w' => (convert 22 9 (.slice (some ⟨h5, 0, none⟩) 32 c5)).run Tryd.prog w' = .ok (.string (txt (mac a b))) w' ∧ (convert 22 9 (.slice (some ⟨h6, 0, none⟩) 32 c6)).run Tryd.prog w' = .ok (.string (txt (mac a b))) w') (fun _ h => h.1) _ _ _ _ ?_
      refine wpAnyH_take (i := 9) (v := ?v9n28) rfl (by kernel_rfl) (by kernel_rfl) (by kernel_rfl) (fun _ _ _ h => h) (Or.inl ⟨by rfl, ?y9n28⟩) HS6.out ?r9n28
      case y9n28 => (intro w' hSw; have s1 := hSw.2; (try dsimp only at s1); clear hSw; go_simp; try with_reducible rfl)
      simp only [List.getElem_toArray, List.getElem_cons_succ, List.getElem_cons_zero, Act.put, List.setIfInBounds_toArray, List.set_cons_zero, List.set_cons_succ]
      refine wpAnyH_take (i := 10) (v := ?v10n29) rfl (by kernel_rfl) (by kernel_rfl) (by kernel_rfl) (fun _ _ _ h => h) (Or.inl ⟨by rfl, ?y10n29⟩) HS6.out ?r10n29
      case y10n29 => (intro w' hSw; clear hSw; go_simp; try with_reducible rfl)
      simp only [List.getElem_toArray, List.getElem_cons_succ, List.getElem_cons_zero, Act.put, List.setIfInBounds_toArray, List.set_cons_zero, List.set_cons_succ]
      refine wpAnyH_take (i := 11) (v := ?v11n30) rfl (by kernel_rfl) (by kernel_rfl) (by kernel_rfl) (fun _ _ _ h => h) (Or.inl ⟨by rfl, ?y11n30⟩) HS6.out ?r11n30
      case y11n30 => (intro w' hSw; clear hSw; go_simp; try with_reducible rfl)
      simp only [List.getElem_toArray, List.getElem_cons_succ, List.getElem_cons_zero, Act.put, List.setIfInBounds_toArray, List.set_cons_zero, List.set_cons_succ]
      refine wpAnyH_take (i := 12) (v := ?v12n31) rfl (by kernel_rfl) (by kernel_rfl) (by kernel_rfl) (fun _ _ _ h => h) (Or.inl ⟨by rfl, ?y12n31⟩) HS6.out ?r12n31
      case y12n31 => (intro w' hSw; clear hSw; go_simp; try with_reducible rfl)
      simp only [List.getElem_toArray, List.getElem_cons_succ, List.getElem_cons_zero, Act.put, List.setIfInBounds_toArray, List.set_cons_zero, List.set_cons_succ]
      refine wpAnyH_take (i := 13) (v := ?v13n32) rfl (by kernel_rfl) (by kernel_rfl) (by kernel_rfl) (fun _ _ _ h => h) (Or.inl ⟨by rfl, ?y13n32⟩) HS6.out ?r13n32
      case y13n32 => (intro w' hSw; clear hSw; go_simp; try with_reducible rfl)
      simp only [List.getElem_toArray, List.getElem_cons_succ, List.getElem_cons_zero, Act.put, List.setIfInBounds_toArray, List.set_cons_zero, List.set_cons_succ]
      refine wpAnyH_take (i := 14) (v := ?v14n33) rfl (by kernel_rfl) (by kernel_rfl) (by kernel_rfl) (fun _ _ _ h => h) (Or.inl ⟨by rfl, ?y14n33⟩) HS6.out ?r14n33
      case y14n33 => (intro w' hSw; clear hSw; go_simp; try with_reducible rfl)
      simp only [List.getElem_toArray, List.getElem_cons_succ, List.getElem_cons_zero, Act.put, List.setIfInBounds_toArray, List.set_cons_zero, List.set_cons_succ]
      refine wpAnyH_take (i := 17) (v := ?v17n34) rfl (by kernel_rfl) (by kernel_rfl) (by kernel_rfl) (fun _ _ _ h => h) (Or.inl ⟨by rfl, ?y17n34⟩) HS6.out ?r17n34
      case y17n34 => (intro w' hSw; clear hSw; go_simp; try with_reducible rfl)
      simp only [List.getElem_toArray, List.getElem_cons_succ, List.getElem_cons_zero, Act.put, List.setIfInBounds_toArray, List.set_cons_zero, List.set_cons_succ]
      refine wpAnyH_take (i := 18) (v := ?v18n35) rfl (by kernel_rfl) (by kernel_rfl) (by kernel_rfl) (fun _ _ _ h => h) (Or.inl ⟨by rfl, ?y18n35⟩) HS6.out ?r18n35
      case y18n35 => (intro w' hSw; clear hSw; go_simp; try with_reducible rfl)
      simp only [List.getElem_toArray, List.getElem_cons_succ, List.getElem_cons_zero, Act.put, List.setIfInBounds_toArray, List.set_cons_zero, List.set_cons_succ]
      refine wpAnyH_ready (rs := [15]) (by kernel_rfl) (by simp) ?_
      refine AllReadyH.cons rfl (fun K hK => ?_) AllReadyH.nil
      simp only [List.getElem_toArray, List.getElem_cons_succ, List.getElem_cons_zero]
      go_simp
      refine (extract_any (some ⟨g, 0, none⟩) A2 (a ++ zeros j) b n cap nb cb w6 (HT.out.below HB6.out h2) (rd_of_own HO46.out HLT.out (Nat.le_refl _)) (HLk.out ()) hcp.1 hcp.2 (by omega) ((HRb.out.below HB6.out).more hs6) (HNb.out ()) hlb hxb (by omega)).mono ?_
      rintro e' w7 ⟨h7, c7, rfl, hown7, hB7⟩
      rw [HMM.out ()] at hown7
      have HO7 := Lib.hid hown7; have HO57 := Lib.hid (own_below HO56.out hB7 (Nat.le_refl _)); have HO67 := Lib.hid (own_below HO6.out hB7 (Nat.le_refl _)); have HB7 := Lib.hid (HB6.out.trans (hB7.mono hs6))
      clear hown7 hB7
      refine hK.out _ _ ⟨conv_own HO57.out, conv_own HO67.out⟩ (fun _ => ?_)
      clear hK K
      try simp only [List.getElem_toArray, List.getElem_cons_succ, List.getElem_cons_zero, Act.put, List.setIfInBounds_toArray, List.set_cons_zero, List.set_cons_succ]
      have hs7 := HB7.out.size
      have HS7 := Lib.hid (And.intro (And.intro (conv_own HO57.out) (conv_own HO67.out)) (conv_own HO7.out))
      refine wpAnyH_more (S' := fun w' => ((convert 22 9 (.slice (some ⟨h5, 0, none⟩) 32 c5)).run Tryd.prog w' = .ok (.string (txt (mac a b))) w' ∧ (convert 22 9 (.slice (some ⟨h6, 0, none⟩) 32 c6)).run Tryd.prog w' = .ok (.string (txt (mac a b))) w') ∧ (convert 22 9 (.slice (some ⟨h7, 0, none⟩) 32 c7)).run Tryd.prog w' = .ok (.string (txt (mac a b))) w') (fun _ h => h.1) _ _ _ _ ?_
      refine wpAnyH_take (i := 16) (v := ?v16n36) rfl (by kernel_rfl) (by kernel_rfl) (by kernel_rfl) (fun _ _ _ h => h) (Or.inl ⟨by rfl, ?y16n36⟩) HS7.out ?r16n36
      case y16n36 => (intro w' hSw; have s1 := hSw.2; (try dsimp only at s1); clear hSw; go_simp; try with_reducible rfl)
      simp only [List.getElem_toArray, List.getElem_cons_succ, List.getElem_cons_zero, Act.put, List.setIfInBounds_toArray, List.set_cons_zero, List.set_cons_succ]
      refine wpAnyH_ready (rs := [19]) (by kernel_rfl) (by simp) ?_
      refine AllReadyH.cons rfl (fun K hK => ?_) AllReadyH.nil
      simp only [List.getElem_toArray, List.getElem_cons_succ, List.getElem_cons_zero]
      go_simp
      refine (mac_any A A2 a b na ca nb cb w7 (HT.out.below HB7.out h2) ((HRa.out.below HB7.out).more hs7) (HNa.out ()) hla hxa (by omega) ((HRb.out.below HB7.out).more hs7) (HNb.out ()) hlb hxb (by omega)).mono ?_
      rintro e' w8 ⟨h8, c8, rfl, hown8, hB8⟩
      have HO8 := Lib.hid hown8; have HO58 := Lib.hid (own_below HO57.out hB8 (Nat.le_refl _)); have HO68 := Lib.hid (own_below HO67.out hB8 (Nat.le_refl _)); have HO78 := Lib.hid (own_below HO7.out hB8 (Nat.le_refl _)); have HB8 := Lib.hid (HB7.out.trans (hB8.mono hs7))
      clear hown8 hB8
      refine hK.out _ _ ⟨⟨conv_own HO58.out, conv_own HO68.out⟩, conv_own HO78.out⟩ (fun _ => ?_)
      clear hK K
      try simp only [List.getElem_toArray, List.getElem_cons_succ, List.getElem_cons_zero, Act.put, List.setIfInBounds_toArray, List.set_cons_zero, List.set_cons_succ]
      have HS8 := Lib.hid (And.intro (And.intro (And.intro (conv_own HO58.out) (conv_own HO68.out)) (conv_own HO78.out)) (conv_own HO8.out))
      refine wpAnyH_more (S' := fun w' => (((convert 22 9 (.slice (some ⟨h5, 0, none⟩) 32 c5)).run Tryd.prog w' = .ok (.string (txt (mac a b))) w' ∧ (convert 22 9 (.slice (some ⟨h6, 0, none⟩) 32 c6)).run Tryd.prog w' = .ok (.string (txt (mac a b))) w') ∧ (convert 22 9 (.slice (some ⟨h7, 0, none⟩) 32 c7)).run Tryd.prog w' = .ok (.string (txt (mac a b))) w') ∧ (convert 22 9 (.slice (some ⟨h8, 0, none⟩) 32 c8)).run Tryd.prog w' = .ok (.string (txt (mac a b))) w') (fun _ h => h.1) _ _ _ _ ?_
      refine wpAnyH_take (i := 20) (v := ?v20n37) rfl (by kernel_rfl) (by kernel_rfl) (by kernel_rfl) (fun _ _ _ h => h) (Or.inl ⟨by rfl, ?y20n37⟩) HS8.out ?r20n37
      case y20n37 => (intro w' hSw; have s1 := hSw.2; (try dsimp only at s1); clear hSw; go_simp; try with_reducible rfl)
      simp only [List.getElem_toArray, List.getElem_cons_succ, List.getElem_cons_zero, Act.put, List.setIfInBounds_toArray, List.set_cons_zero, List.set_cons_succ]
      refine wpAnyH_take (i := 21) (v := ?v21n38) rfl (by kernel_rfl) (by kernel_rfl) (by kernel_rfl) (fun _ _ _ h => h) (Or.inl ⟨by rfl, ?y21n38⟩) HS8.out ?r21n38
      case y21n38 => (intro w' hSw; clear hSw; go_simp; try with_reducible rfl)
      simp only [List.getElem_toArray, List.getElem_cons_succ, List.getElem_cons_zero, Act.put, List.setIfInBounds_toArray, List.set_cons_zero, List.set_cons_succ]
      refine wpAnyH_take (i := 22) (v := ?v22n39) rfl (by kernel_rfl) (by kernel_rfl) (by kernel_rfl) (fun _ _ _ h => h) (Or.inl ⟨by rfl, ?y22n39⟩) HS8.out ?r22n39
      case y22n39 => (intro w' hSw; clear hSw; go_simp; try with_reducible rfl)
      simp only [List.getElem_toArray, List.getElem_cons_succ, List.getElem_cons_zero, Act.put, List.setIfInBounds_toArray, List.set_cons_zero, List.set_cons_succ]
      refine wpAnyH_take (i := 23) (v := ?v23n40) rfl (by kernel_rfl) (by kernel_rfl) (by kernel_rfl) (fun _ _ _ h => h) (Or.inl ⟨by rfl, ?y23n40⟩) HS8.out ?r23n40
      case y23n40 => (intro w' hSw; clear hSw; go_simp; try with_reducible rfl)
      simp only [List.getElem_toArray, List.getElem_cons_succ, List.getElem_cons_zero, Act.put, List.setIfInBounds_toArray, List.set_cons_zero, List.set_cons_succ]
      refine wpAnyH_done (by kernel_rfl) ?_ _
      change Exit.then _ _ Exit.normal _ _
      go_wp2
      go_ret
      exact ⟨rfl, HB8.out⟩

set_option maxHeartbeats 1000000 in
theorem keys_great (A A2 : Option Addr) (na nb ca cb N : Nat) (w : World) (hT : Tables w) (h : 64 < na ∨ 17000 < nb) :
    Calls Tryd.prog 6 #[.slice A na ca, .slice A2 nb cb, .int .u8 N] w fun e w' => e = .returned (.bool true) ∧ Below w.heap.size w w' := by
  have HT := Lib.hid hT; clear hT
  go_enter Tryd.func6, Tryd.ntmps6
  go_wp2_with fail
  refine (head_any _ HT.out).mono ?_
  rintro e' w1 ⟨rfl, hB1⟩
  have HB1 := Lib.hid hB1; clear hB1
  by_cases ha : 17000 < na
  · go_wp2_with fail
    refine (great_yes _ _ _ _ ha).mono ?_
    rintro e' w2 ⟨rfl, rfl⟩
    go_wp2
    go_ret
    exact ⟨rfl, HB1.out⟩
  · go_wp2_with fail
    refine (great_no _ _ _ _ (by omega)).mono ?_
    rintro e' w2 ⟨rfl, rfl⟩
    by_cases hb : 17000 < nb
    · go_wp2_with fail
      refine (great_yes _ _ _ _ hb).mono ?_
      rintro e' w2 ⟨rfl, rfl⟩
      go_wp2
      go_ret
      exact ⟨rfl, HB1.out⟩
    · have y1 : (64 : Int) < (na : Int) := by omega
      go_wp2_with fail
      refine (great_no _ _ _ _ (by omega)).mono ?_
      rintro e' w2 ⟨rfl, rfl⟩
      go_wp2
      go_ret
      exact ⟨rfl, HB1.out⟩

theorem hkdfKeys_walk (a0 : Option Addr) (len0 cap0 : Nat) (z0 : List Int) (a1 : Option Addr) (len1 cap1 : Nat) (z1 : List Int) (a2 : Int) (w : World) (hT : Tables w) (w0 : IsRow .u8 w a0 len0 cap0 z0) (w1 : IsRow .u8 w a1 len1 cap1 z1) (w2 : (Lit.int .u8 a2).wf = true) :
    Calls Tryd.prog 6 #[.slice a0 len0 cap0, .slice a1 len1 cap1, .int .u8 a2] w fun e w' => e = .returned (.bool true) ∧ Below w.heap.size w w' := by
  obtain ⟨r0, n0, m0, c0, x0⟩ := rd_of_row w0
  obtain ⟨r1, n1, m1, c1, x1⟩ := rd_of_row w1
  obtain ⟨k2, rfl, h2⟩ := byte_of_wf w2
  by_cases h : 64 < len0 ∨ 17000 < len1
  · exact keys_great a0 a1 len0 len1 cap0 cap1 k2 w hT h
  · exact keys_walk a0 a1 _ _ len0 len1 cap0 cap1 k2 w hT r0 r1 n0 n1 m0 m1 c0 c1 x0 (by omega) (by omega) h2

end Go.Proofs.YtfcnhendebjjeaaDoor.Sha
