/- Walks: isTag: two tags' own tags are compared, and then the tags. Written by tools/mk_bxistag.py. -/
import Derived.Test.YtfhibjpkbbbfpaaDoorBxWalkE
import Derived.Test.YtfhibjpkbbbfpaaDoorBxEq
namespace Go.Proofs.YtfhibjpkbbbfpaaDoor.Bx
set_option linter.all false
open Go.RowKit Wr

/-- a key's own keys, and two tags, in their blocks -/
def In3 (g4 : Nat) (A1 : Option Addr) (c1 : Nat) (A2 : Option Addr) (c2 g5 : Nat) (x : List Nat) (g9 : Nat) (t : List Nat) (w : World) : Prop :=
  KeysIn g4 A1 c1 A2 c2 w ∧ w.heap[g5]? = some (.cells (bcells x).toArray 37 (0, 0)) ∧ w.heap[g9]? = some (.cells (bcells t).toArray 37 (0, 0))
theorem In3.below {g4 : Nat} {A1 A2 : Option Addr} {c1 c2 g5 g9 : Nat} {x t : List Nat} {w w' : World} (h : In3 g4 A1 c1 A2 c2 g5 x g9 t w) (hb : Below w.heap.size w w') : In3 g4 A1 c1 A2 c2 g5 x g9 t w' :=
  ⟨h.1.below hb, (hb.block g5 (Array.getElem?_eq_some_iff.1 h.2.1).1).trans h.2.1, (hb.block g9 (Array.getElem?_eq_some_iff.1 h.2.2).1).trans h.2.2⟩

theorem exec_load_tag {o : Oper} {ev : Operand → Value} {w : World} (y : Operand) (ho : o.op = .load 37 y) (g : Nat) (t : List Nat) (hx : ev y = .pointer (some ⟨g, 0, none⟩)) (hg : w.heap[g]? = some (.cells (bcells t).toArray 37 (0, 0))) (hn : t.length = 32) :
    (execOp ev o).run Tryd.prog w = .ok (.value (.agg (bcells t).toArray)) w :=
  exec_load_run 37 y ho ⟨g, 0, none⟩ _ hx (run_loadVar_row w g 37 37 _ (0, 0) _ hg Tryd.underlying37 rfl (tag_sized hn))
set_option maxHeartbeats 8000000 in
set_option maxRecDepth 100000 in
theorem isTag_any (A1 A2 : Option Addr) (c1 c2 : Nat) (kt a b x : List Nat) (A B : Option Addr) (na ca nb cb : Nat) (w : World) (hT : Tabs w) (hK2 : Txt Any w A2 32 c2 kt) (hA : Txt Any w A na ca a) (hB : Txt Any w B nb cb b) (hma : na ≤ 32768) (hmb : nb ≤ 32768)
    (hxn : x.length = 32) (hxl : ∀ j, gt x j < 256) :
    Calls Tryd.prog 18 #[.agg #[.slice A1 32 c1, .slice A2 32 c2], .agg (bcells x).toArray, .slice A na ca, .slice B nb cb] w fun e w' => e = .returned (.bool (decide (x = tg kt a b))) ∧ Below w.heap.size w w' := by
  have hlt := hT.lt
  have HT := Lib.hid hT; have HK := Lib.hid hK2; have HA := Lib.hid hA; have HB' := Lib.hid hB; have HXN := Lib.hid hxn; have HXL := Lib.hid hxl; clear hT hK2 hA hB hxn hxl
  obtain ⟨t, ht⟩ : ∃ t, tg kt a b = t := ⟨_, rfl⟩
  obtain ⟨r1, hr1⟩ : ∃ r, Sha.mac kt x = r := ⟨_, rfl⟩
  obtain ⟨r2, hr2⟩ : ∃ r, Sha.mac kt t = r := ⟨_, rfl⟩
  rw [ht]
  obtain ⟨I, hI⟩ : ∃ I, decide (x = t) = I := ⟨_, rfl⟩
  rw [hI]
  have HI := Lib.hid hI; clear hI
  have HTG := Lib.hid ht
  have HTN : Hid (t.length = 32) := Lib.hid (by rw [← ht]; exact tg_len _ _ _)
  have HTL : Hid (∀ j, gt t j < 256) := Lib.hid (by rw [← ht]; exact tg_lt _ _ _)
  have HL1 : Hid (r1.length = 32) := Lib.hid (by rw [← hr1]; exact Sha.mac_len _ _)
  have HL2 : Hid (r2.length = 32) := Lib.hid (by rw [← hr2]; exact Sha.mac_len _ _)
  have HR1 : Hid (Sha.mac kt [x].flatten = r1) := Lib.hid (by simpa using hr1)
  have HR2 : Hid (Sha.mac kt [t].flatten = r2) := Lib.hid (by simpa using hr2)
  clear ht hr1 hr2
  obtain ⟨Z, hz, hZ⟩ := zero_tag
  have HZ := Lib.hid hZ; clear hZ
  have e1 : (w.alloc (.cells #[.slice A1 32 c1, .slice A2 32 c2] 33)).heap.size = w.heap.size + 1 := by simp
  have HG4 : Hid (KeysIn w.heap.size A1 c1 A2 c2 ((w.alloc (.cells #[.slice A1 32 c1, .slice A2 32 c2] 33)).alloc (.cells (bcells x).toArray 37))) :=
    Lib.hid ((Below.heap_alloc _ _ _ (by rw [e1]; omega)).trans (heap_alloc_last w _))
  have g2 := heap_alloc_last (w.alloc (.cells #[.slice A1 32 c1, .slice A2 32 c2] 33)) (.cells (bcells x).toArray 37)
  rw [e1] at g2
  have HG5 := Lib.hid g2
  have HB := Lib.hid (((Below.refl w.heap.size w).alloc (Nat.le_refl _) (.cells #[.slice A1 32 c1, .slice A2 32 c2] 33)).alloc (by simp) (.cells (bcells x).toArray 37))
  clear g2 e1
  go_enter Tryd.func18, Tryd.ntmps18
  go_wp2_with fail
  obtain ⟨W0, hW0⟩ : ∃ W0, ((w.alloc (.cells #[.slice A1 32 c1, .slice A2 32 c2] 33)).alloc (.cells (bcells x).toArray 37)) = W0 := ⟨_, rfl⟩
  rw [hW0] at HG4 HG5 HB
  rw [hW0]
  clear hW0
  refine (tagOf_any A1 A2 c1 c2 kt a b A B na ca nb cb W0 (HT.out.below HB.out hlt) (HK.out.below HB.out) (HA.out.below HB.out) (HB'.out.below HB.out) hma hmb t HTG).mono ?_
  rintro e' w1 ⟨rfl, hB1⟩
  have HG4' := Lib.hid (HG4.out.below hB1)
  have HG5' := Lib.hid ((hB1.block _ (Array.getElem?_eq_some_iff.1 HG5.out).1).trans HG5.out)
  have HB1 := Lib.hid (HB.out.trans (hB1.mono HB.out.size))
  clear hB1 HG4 HG5
  have HQ9 := Lib.hid (heap_alloc_last w1 (.cells Z 37))
  have hlt5 := (Array.getElem?_eq_some_iff.1 HG5'.out).1
  have hlt4 := HG4'.out.lt
  go_wp2_with (refine wpList_store_row rfl 37 (.tmp 9) (.tmp 13) rfl w1.heap.size (bcells t).toArray rfl rfl 37 Z HQ9.out (tag_sized HTN.out) (by rw [HZ.out, List.size_toArray, bcells_len, HTN.out]) (bcells_all t) ?_)
  obtain ⟨w2, hw2⟩ : ∃ w2, (w1.alloc (.cells Z 37)).setRow w1.heap.size (bcells t).toArray = w2 := ⟨_, rfl⟩
  rw [hw2]
  have hB2 : Below w1.heap.size w1 w2 := by rw [← hw2]; exact below_setRow ((Below.refl w1.heap.size w1).alloc (Nat.le_refl _) _) (Nat.le_refl _) _
  have hq2 : w2.heap[w1.heap.size]? = some (.cells (bcells t).toArray 37 (0, 0)) := by rw [← hw2]; exact setRow_heap _ _ _ _ _ _ HQ9.out
  have HS0 : Hid (In3 w.heap.size A1 c1 A2 c2 (w.heap.size + 1) x w1.heap.size t w2) := Lib.hid ⟨HG4'.out.below hB2, (hB2.block _ hlt5).trans HG5'.out, hq2⟩
  have HB2 := Lib.hid (HB1.out.trans (hB2.mono HB1.out.size))
  clear hB2 hq2 hw2 HQ9 HG4' HG5'
  have hw5 := run_whole (w.heap.size + 1)
  have hw9 := run_whole w1.heap.size
  simp only [Act.put]
  refine region_calm ?_
  refine wp_region_any (by kernel_rfl) ?_
  change wpAny _ _ _ _ _ _ _ (World.drew w2)
  replace HS0 := Lib.hid (show In3 w.heap.size A1 c1 A2 c2 (w.heap.size + 1) x w1.heap.size t w2.drew from HS0.out)
  replace HB2 := Lib.hid HB2.out.drew
  generalize w2.drew = wd at *
  refine wpAny_of_held (S := In3 w.heap.size A1 c1 A2 c2 (w.heap.size + 1) x w1.heap.size t) _ _ _ _ ?_
  refine wpAnyH_take (i := 0) (v := ?vz1) rfl (by kernel_rfl) (by kernel_rfl) (by kernel_rfl) (fun _ _ _ h => h) (Or.inl ⟨by rfl, ?yz1⟩) HS0.out ?rz1
  case yz1 => (intro w' hSw; have q0 := hSw.1.cell0; have q1 := hSw.1.cell1; clear hSw; go_simp; try with_reducible rfl)
  simp only [List.getElem_toArray, List.getElem_cons_succ, List.getElem_cons_zero, Act.put, List.setIfInBounds_toArray, List.set_cons_zero, List.set_cons_succ]
  refine wpAnyH_take (i := 1) (v := ?vz2) rfl (by kernel_rfl) (by kernel_rfl) (by kernel_rfl) (fun _ _ _ h => h) (Or.inl ⟨by rfl, ?yz2⟩) HS0.out ?rz2
  case yz2 => (intro w' hSw; clear hSw; go_simp; try with_reducible rfl)
  simp only [List.getElem_toArray, List.getElem_cons_succ, List.getElem_cons_zero, Act.put, List.setIfInBounds_toArray, List.set_cons_zero, List.set_cons_succ]
  refine wpAnyH_take (i := 4) (v := ?vz3) rfl (by kernel_rfl) (by kernel_rfl) (by kernel_rfl) (fun _ _ _ h => h) (Or.inl ⟨by rfl, ?yz3⟩) HS0.out ?rz3
  case yz3 => (intro w' hSw; have q0 := hSw.1.cell0; have q1 := hSw.1.cell1; clear hSw; go_simp; try with_reducible rfl)
  simp only [List.getElem_toArray, List.getElem_cons_succ, List.getElem_cons_zero, Act.put, List.setIfInBounds_toArray, List.set_cons_zero, List.set_cons_succ]
  refine wpAnyH_take (i := 5) (v := ?vz4) rfl (by kernel_rfl) (by kernel_rfl) (by kernel_rfl) (fun _ _ _ h => h) (Or.inl ⟨by rfl, ?yz4⟩) HS0.out ?rz4
  case yz4 => (intro w' hSw; clear hSw; go_simp; try with_reducible rfl)
  simp only [List.getElem_toArray, List.getElem_cons_succ, List.getElem_cons_zero, Act.put, List.setIfInBounds_toArray, List.set_cons_zero, List.set_cons_succ]
  refine wpAnyH_ready (rs := [2, 6]) (by kernel_rfl) (by simp) ?_
  refine AllReadyH.cons rfl (fun K' hK => ?_) (AllReadyH.cons rfl (fun K' hK => ?_) AllReadyH.nil)
  · skip
    simp only [List.getElem_toArray, List.getElem_cons_succ, List.getElem_cons_zero]
    go_simp
    have hBz5 := (Below.refl wd.heap.size wd).alloc (Nat.le_refl _) (.cells #[.slice (some ⟨w.heap.size + 1, 0, none⟩) 32 32] 22)
    have hPz5 := one_part (txt_of_tag HS0.out.2.1 HXN.out HXL.out) 22
    obtain ⟨pz5, hpz5⟩ : ∃ p, wd.heap.size = p := ⟨_, rfl⟩
    obtain ⟨wz5, hwz5⟩ : ∃ w2, wd.alloc (.cells #[.slice (some ⟨w.heap.size + 1, 0, none⟩) 32 32] 22) = w2 := ⟨_, rfl⟩
    rw [hwz5] at hBz5 hPz5
    rw [hpz5] at hPz5
    rw [hwz5, hpz5]
    have HSz6 := Lib.hid (HS0.out.below hBz5)
    have HBz6 := Lib.hid (HB2.out.trans (hBz5.mono HB2.out.size))
    have HPz5 := Lib.hid hPz5
    clear hBz5 hPz5 hwz5 hpz5
    refine hK.out _ _ HSz6.out (fun _ => ?_)
    clear hK
    try simp only [List.getElem_toArray, List.getElem_cons_succ, List.getElem_cons_zero, Act.put, List.setIfInBounds_toArray, List.set_cons_zero, List.set_cons_succ]
    refine wpAnyH_ready (rs := [3, 6]) (by kernel_rfl) (by simp) ?_
    refine AllReadyH.cons rfl (fun K' hK => ?_) (AllReadyH.cons rfl (fun K' hK => ?_) AllReadyH.nil)
    · skip
      simp only [List.getElem_toArray, List.getElem_cons_succ, List.getElem_cons_zero]
      go_simp
      refine (mac_any A1 A2 c1 c2 kt ⟨pz5, 0, none⟩ 1 1 [x] wz5 (HT.out.below HBz6.out hlt) (HK.out.below HBz6.out) HPz5.out (by omega) (by omega) (by have := HXN.out; have := HTN.out; simp only [List.flatten_cons, List.flatten_nil, List.append_nil]; omega) r1 HR1).mono ?_
      rintro e' wz7 ⟨rfl, hBz7⟩
      have HSz8 := Lib.hid (HSz6.out.below hBz7)
      have HBz8 := Lib.hid (HBz6.out.trans (hBz7.mono HBz6.out.size))
      have HPz8x2 := Lib.hid (HPz5.out.below hBz7)
      clear hBz7
      refine hK.out _ _ HSz8.out (fun _ => ?_)
      clear hK
      try simp only [List.getElem_toArray, List.getElem_cons_succ, List.getElem_cons_zero, Act.put, List.setIfInBounds_toArray, List.set_cons_zero, List.set_cons_succ]
      refine wpAnyH_ready (rs := [6]) (by kernel_rfl) (by simp) ?_
      refine AllReadyH.cons rfl (fun K' hK => ?_) AllReadyH.nil
      simp only [List.getElem_toArray, List.getElem_cons_succ, List.getElem_cons_zero]
      go_simp
      have hBz9 := (Below.refl wz7.heap.size wz7).alloc (Nat.le_refl _) (.cells #[.slice (some ⟨w1.heap.size, 0, none⟩) 32 32] 22)
      have hPz9 := one_part (txt_of_tag HSz8.out.2.2 HTN.out HTL.out) 22
      obtain ⟨pz9, hpz9⟩ : ∃ p, wz7.heap.size = p := ⟨_, rfl⟩
      obtain ⟨wz9, hwz9⟩ : ∃ w2, wz7.alloc (.cells #[.slice (some ⟨w1.heap.size, 0, none⟩) 32 32] 22) = w2 := ⟨_, rfl⟩
      rw [hwz9] at hBz9 hPz9
      rw [hpz9] at hPz9
      rw [hwz9, hpz9]
      have HSz10 := Lib.hid (HSz8.out.below hBz9)
      have HBz10 := Lib.hid (HBz8.out.trans (hBz9.mono HBz8.out.size))
      have HPz10x2 := Lib.hid (HPz8x2.out.below hBz9)
      have HPz9 := Lib.hid hPz9
      clear hBz9 hPz9 hwz9 hpz9
      refine hK.out _ _ HSz10.out (fun _ => ?_)
      clear hK
      try simp only [List.getElem_toArray, List.getElem_cons_succ, List.getElem_cons_zero, Act.put, List.setIfInBounds_toArray, List.set_cons_zero, List.set_cons_succ]
      refine wpAnyH_ready (rs := [7]) (by kernel_rfl) (by simp) ?_
      refine AllReadyH.cons rfl (fun K' hK => ?_) AllReadyH.nil
      simp only [List.getElem_toArray, List.getElem_cons_succ, List.getElem_cons_zero]
      go_simp
      refine (mac_any A1 A2 c1 c2 kt ⟨pz9, 0, none⟩ 1 1 [t] wz9 (HT.out.below HBz10.out hlt) (HK.out.below HBz10.out) HPz9.out (by omega) (by omega) (by have := HXN.out; have := HTN.out; simp only [List.flatten_cons, List.flatten_nil, List.append_nil]; omega) r2 HR2).mono ?_
      rintro e' wz11 ⟨rfl, hBz11⟩
      have HSz12 := Lib.hid (HSz10.out.below hBz11)
      have HBz12 := Lib.hid (HBz10.out.trans (hBz11.mono HBz10.out.size))
      have HPz12x2 := Lib.hid (HPz10x2.out.below hBz11)
      have HPz12x6 := Lib.hid (HPz9.out.below hBz11)
      clear hBz11
      refine hK.out _ _ HSz12.out (fun _ => ?_)
      clear hK
      try simp only [List.getElem_toArray, List.getElem_cons_succ, List.getElem_cons_zero, Act.put, List.setIfInBounds_toArray, List.set_cons_zero, List.set_cons_succ]
      refine wpAnyH_take (i := 8) (v := .bool (decide (r1 = r2))) rfl (by kernel_rfl) (by kernel_rfl) (by kernel_rfl) (fun _ _ _ h => h) (Or.inl ⟨by rfl, ?yz13⟩) HSz12.out ?rz13
      case yz13 => (intro w' hSw; exact exec_eq (.tmp 17) (.tmp 21) _ (by rfl) HL1.out HL2.out (by rfl) (by rfl))
      simp only [List.getElem_toArray, List.getElem_cons_succ, List.getElem_cons_zero, Act.put, List.setIfInBounds_toArray, List.set_cons_zero, List.set_cons_succ]
      rcases Bool.eq_false_or_eq_true (decide (r1 = r2)) with hbz14 | hbz14
      · skip
        rw [hbz14]
        refine wpAnyH_take (i := 9) (v := ?vz15) rfl (by kernel_rfl) (by kernel_rfl) (by kernel_rfl) (fun _ _ _ h => h) (Or.inl ⟨by rfl, ?yz15⟩) HSz12.out ?rz15
        case yz15 => (intro w' hSw; clear hSw; go_simp; try with_reducible rfl)
        simp only [List.getElem_toArray, List.getElem_cons_succ, List.getElem_cons_zero, Act.put, List.setIfInBounds_toArray, List.set_cons_zero, List.set_cons_succ]
        clear hbz14
        refine wpAnyH_take (i := 10) (v := .agg (bcells x).toArray) rfl (by kernel_rfl) (by kernel_rfl) (by kernel_rfl) (fun _ _ _ h => h) (Or.inl ⟨by rfl, ?yz16⟩) HSz12.out ?rz16
        case yz16 => (intro w' hSw; exact exec_load_tag (.tmp 5) (by rfl) _ _ (by rfl) hSw.2.1 HXN.out)
        simp only [List.getElem_toArray, List.getElem_cons_succ, List.getElem_cons_zero, Act.put, List.setIfInBounds_toArray, List.set_cons_zero, List.set_cons_succ]
        refine wpAnyH_take (i := 11) (v := .agg (bcells t).toArray) rfl (by kernel_rfl) (by kernel_rfl) (by kernel_rfl) (fun _ _ _ h => h) (Or.inl ⟨by rfl, ?yz17⟩) HSz12.out ?rz17
        case yz17 => (intro w' hSw; exact exec_load_tag (.tmp 9) (by rfl) _ _ (by rfl) hSw.2.2 HTN.out)
        simp only [List.getElem_toArray, List.getElem_cons_succ, List.getElem_cons_zero, Act.put, List.setIfInBounds_toArray, List.set_cons_zero, List.set_cons_succ]
        refine wpAnyH_take (i := 12) (v := .bool I) rfl (by kernel_rfl) (by kernel_rfl) (by kernel_rfl) (fun _ _ _ h => h) (Or.inl ⟨by rfl, ?yz18⟩) HSz12.out ?rz18
        case yz18 => (intro w' hSw; rw [← HI.out]; exact exec_eq (.tmp 24) (.tmp 25) _ (by rfl) HXN.out HTN.out (by rfl) (by rfl))
        simp only [List.getElem_toArray, List.getElem_cons_succ, List.getElem_cons_zero, Act.put, List.setIfInBounds_toArray, List.set_cons_zero, List.set_cons_succ]
        refine wpAnyH_take (i := 13) (v := ?vz19) rfl (by kernel_rfl) (by kernel_rfl) (by kernel_rfl) (fun _ _ _ h => h) (Or.inl ⟨by rfl, ?yz19⟩) HSz12.out ?rz19
        case yz19 => (intro w' hSw; clear hSw; go_simp; try with_reducible rfl)
        simp only [List.getElem_toArray, List.getElem_cons_succ, List.getElem_cons_zero, Act.put, List.setIfInBounds_toArray, List.set_cons_zero, List.set_cons_succ]
        refine wpAnyH_take (i := 14) (v := ?vz20) rfl (by kernel_rfl) (by kernel_rfl) (by kernel_rfl) (fun _ _ _ h => h) (Or.inl ⟨by rfl, ?yz20⟩) HSz12.out ?rz20
        case yz20 => (intro w' hSw; clear hSw; go_simp; try with_reducible rfl)
        simp only [List.getElem_toArray, List.getElem_cons_succ, List.getElem_cons_zero, Act.put, List.setIfInBounds_toArray, List.set_cons_zero, List.set_cons_succ]
        refine wpAnyH_done (by kernel_rfl) ?_ _
        change Exit.then _ _ Exit.normal _ _
        go_wp2
        go_ret
        exact ⟨rfl, HBz12.out⟩
      · skip
        rw [hbz14]
        refine wpAnyH_take (i := 9) (v := ?vz21) rfl (by kernel_rfl) (by kernel_rfl) (by kernel_rfl) (fun _ _ _ h => h) (Or.inl ⟨by rfl, ?yz21⟩) HSz12.out ?rz21
        case yz21 => (intro w' hSw; clear hSw; go_simp; try with_reducible rfl)
        simp only [List.getElem_toArray, List.getElem_cons_succ, List.getElem_cons_zero, Act.put, List.setIfInBounds_toArray, List.set_cons_zero, List.set_cons_succ]
        obtain rfl : I = false := by rw [← HI.out]; exact decide_eq_false fun e => absurd (by rw [← HR1.out, ← HR2.out, e]) (of_decide_eq_false hbz14)
        clear hbz14
        refine wpAnyH_take (i := 10) (v := undef) rfl (by kernel_rfl) (by kernel_rfl) (by kernel_rfl) (fun _ _ _ h => h) (Or.inr ⟨by rfl, rfl⟩) HSz12.out ?rz14f10
        simp only [List.getElem_toArray, List.getElem_cons_succ, List.getElem_cons_zero, Act.put, List.setIfInBounds_toArray, List.set_cons_zero, List.set_cons_succ]
        refine wpAnyH_take (i := 11) (v := undef) rfl (by kernel_rfl) (by kernel_rfl) (by kernel_rfl) (fun _ _ _ h => h) (Or.inr ⟨by rfl, rfl⟩) HSz12.out ?rz14f11
        simp only [List.getElem_toArray, List.getElem_cons_succ, List.getElem_cons_zero, Act.put, List.setIfInBounds_toArray, List.set_cons_zero, List.set_cons_succ]
        refine wpAnyH_take (i := 12) (v := undef) rfl (by kernel_rfl) (by kernel_rfl) (by kernel_rfl) (fun _ _ _ h => h) (Or.inr ⟨by rfl, rfl⟩) HSz12.out ?rz14f12
        simp only [List.getElem_toArray, List.getElem_cons_succ, List.getElem_cons_zero, Act.put, List.setIfInBounds_toArray, List.set_cons_zero, List.set_cons_succ]
        refine wpAnyH_take (i := 13) (v := ?vz22) rfl (by kernel_rfl) (by kernel_rfl) (by kernel_rfl) (fun _ _ _ h => h) (Or.inl ⟨by rfl, ?yz22⟩) HSz12.out ?rz22
        case yz22 => (intro w' hSw; clear hSw; go_simp; try with_reducible rfl)
        simp only [List.getElem_toArray, List.getElem_cons_succ, List.getElem_cons_zero, Act.put, List.setIfInBounds_toArray, List.set_cons_zero, List.set_cons_succ]
        refine wpAnyH_take (i := 14) (v := ?vz23) rfl (by kernel_rfl) (by kernel_rfl) (by kernel_rfl) (fun _ _ _ h => h) (Or.inl ⟨by rfl, ?yz23⟩) HSz12.out ?rz23
        case yz23 => (intro w' hSw; clear hSw; go_simp; try with_reducible rfl)
        simp only [List.getElem_toArray, List.getElem_cons_succ, List.getElem_cons_zero, Act.put, List.setIfInBounds_toArray, List.set_cons_zero, List.set_cons_succ]
        refine wpAnyH_done (by kernel_rfl) ?_ _
        change Exit.then _ _ Exit.normal _ _
        go_wp2
        go_ret
        exact ⟨rfl, HBz12.out⟩
    · skip
      simp only [List.getElem_toArray, List.getElem_cons_succ, List.getElem_cons_zero]
      go_simp
      have hBz24 := (Below.refl wz5.heap.size wz5).alloc (Nat.le_refl _) (.cells #[.slice (some ⟨w1.heap.size, 0, none⟩) 32 32] 22)
      have hPz24 := one_part (txt_of_tag HSz6.out.2.2 HTN.out HTL.out) 22
      obtain ⟨pz24, hpz24⟩ : ∃ p, wz5.heap.size = p := ⟨_, rfl⟩
      obtain ⟨wz24, hwz24⟩ : ∃ w2, wz5.alloc (.cells #[.slice (some ⟨w1.heap.size, 0, none⟩) 32 32] 22) = w2 := ⟨_, rfl⟩
      rw [hwz24] at hBz24 hPz24
      rw [hpz24] at hPz24
      rw [hwz24, hpz24]
      have HSz25 := Lib.hid (HSz6.out.below hBz24)
      have HBz25 := Lib.hid (HBz6.out.trans (hBz24.mono HBz6.out.size))
      have HPz25x2 := Lib.hid (HPz5.out.below hBz24)
      have HPz24 := Lib.hid hPz24
      clear hBz24 hPz24 hwz24 hpz24
      refine hK.out _ _ HSz25.out (fun _ => ?_)
      clear hK
      try simp only [List.getElem_toArray, List.getElem_cons_succ, List.getElem_cons_zero, Act.put, List.setIfInBounds_toArray, List.set_cons_zero, List.set_cons_succ]
      refine wpAnyH_ready (rs := [3]) (by kernel_rfl) (by simp) ?_
      refine AllReadyH.cons rfl (fun K' hK => ?_) AllReadyH.nil
      simp only [List.getElem_toArray, List.getElem_cons_succ, List.getElem_cons_zero]
      go_simp
      refine (mac_any A1 A2 c1 c2 kt ⟨pz5, 0, none⟩ 1 1 [x] wz24 (HT.out.below HBz25.out hlt) (HK.out.below HBz25.out) HPz25x2.out (by omega) (by omega) (by have := HXN.out; have := HTN.out; simp only [List.flatten_cons, List.flatten_nil, List.append_nil]; omega) r1 HR1).mono ?_
      rintro e' wz26 ⟨rfl, hBz26⟩
      have HSz27 := Lib.hid (HSz25.out.below hBz26)
      have HBz27 := Lib.hid (HBz25.out.trans (hBz26.mono HBz25.out.size))
      have HPz27x2 := Lib.hid (HPz25x2.out.below hBz26)
      have HPz27x6 := Lib.hid (HPz24.out.below hBz26)
      clear hBz26
      refine hK.out _ _ HSz27.out (fun _ => ?_)
      clear hK
      try simp only [List.getElem_toArray, List.getElem_cons_succ, List.getElem_cons_zero, Act.put, List.setIfInBounds_toArray, List.set_cons_zero, List.set_cons_succ]
      refine wpAnyH_ready (rs := [7]) (by kernel_rfl) (by simp) ?_
      refine AllReadyH.cons rfl (fun K' hK => ?_) AllReadyH.nil
      simp only [List.getElem_toArray, List.getElem_cons_succ, List.getElem_cons_zero]
      go_simp
      refine (mac_any A1 A2 c1 c2 kt ⟨pz24, 0, none⟩ 1 1 [t] wz26 (HT.out.below HBz27.out hlt) (HK.out.below HBz27.out) HPz27x6.out (by omega) (by omega) (by have := HXN.out; have := HTN.out; simp only [List.flatten_cons, List.flatten_nil, List.append_nil]; omega) r2 HR2).mono ?_
      rintro e' wz28 ⟨rfl, hBz28⟩
      have HSz29 := Lib.hid (HSz27.out.below hBz28)
      have HBz29 := Lib.hid (HBz27.out.trans (hBz28.mono HBz27.out.size))
      have HPz29x2 := Lib.hid (HPz27x2.out.below hBz28)
      have HPz29x6 := Lib.hid (HPz27x6.out.below hBz28)
      clear hBz28
      refine hK.out _ _ HSz29.out (fun _ => ?_)
      clear hK
      try simp only [List.getElem_toArray, List.getElem_cons_succ, List.getElem_cons_zero, Act.put, List.setIfInBounds_toArray, List.set_cons_zero, List.set_cons_succ]
      refine wpAnyH_take (i := 8) (v := .bool (decide (r1 = r2))) rfl (by kernel_rfl) (by kernel_rfl) (by kernel_rfl) (fun _ _ _ h => h) (Or.inl ⟨by rfl, ?yz30⟩) HSz29.out ?rz30
      case yz30 => (intro w' hSw; exact exec_eq (.tmp 17) (.tmp 21) _ (by rfl) HL1.out HL2.out (by rfl) (by rfl))
      simp only [List.getElem_toArray, List.getElem_cons_succ, List.getElem_cons_zero, Act.put, List.setIfInBounds_toArray, List.set_cons_zero, List.set_cons_succ]
      rcases Bool.eq_false_or_eq_true (decide (r1 = r2)) with hbz31 | hbz31
      · skip
        rw [hbz31]
        refine wpAnyH_take (i := 9) (v := ?vz32) rfl (by kernel_rfl) (by kernel_rfl) (by kernel_rfl) (fun _ _ _ h => h) (Or.inl ⟨by rfl, ?yz32⟩) HSz29.out ?rz32
        case yz32 => (intro w' hSw; clear hSw; go_simp; try with_reducible rfl)
        simp only [List.getElem_toArray, List.getElem_cons_succ, List.getElem_cons_zero, Act.put, List.setIfInBounds_toArray, List.set_cons_zero, List.set_cons_succ]
        clear hbz31
        refine wpAnyH_take (i := 10) (v := .agg (bcells x).toArray) rfl (by kernel_rfl) (by kernel_rfl) (by kernel_rfl) (fun _ _ _ h => h) (Or.inl ⟨by rfl, ?yz33⟩) HSz29.out ?rz33
        case yz33 => (intro w' hSw; exact exec_load_tag (.tmp 5) (by rfl) _ _ (by rfl) hSw.2.1 HXN.out)
        simp only [List.getElem_toArray, List.getElem_cons_succ, List.getElem_cons_zero, Act.put, List.setIfInBounds_toArray, List.set_cons_zero, List.set_cons_succ]
        refine wpAnyH_take (i := 11) (v := .agg (bcells t).toArray) rfl (by kernel_rfl) (by kernel_rfl) (by kernel_rfl) (fun _ _ _ h => h) (Or.inl ⟨by rfl, ?yz34⟩) HSz29.out ?rz34
        case yz34 => (intro w' hSw; exact exec_load_tag (.tmp 9) (by rfl) _ _ (by rfl) hSw.2.2 HTN.out)
        simp only [List.getElem_toArray, List.getElem_cons_succ, List.getElem_cons_zero, Act.put, List.setIfInBounds_toArray, List.set_cons_zero, List.set_cons_succ]
        refine wpAnyH_take (i := 12) (v := .bool I) rfl (by kernel_rfl) (by kernel_rfl) (by kernel_rfl) (fun _ _ _ h => h) (Or.inl ⟨by rfl, ?yz35⟩) HSz29.out ?rz35
        case yz35 => (intro w' hSw; rw [← HI.out]; exact exec_eq (.tmp 24) (.tmp 25) _ (by rfl) HXN.out HTN.out (by rfl) (by rfl))
        simp only [List.getElem_toArray, List.getElem_cons_succ, List.getElem_cons_zero, Act.put, List.setIfInBounds_toArray, List.set_cons_zero, List.set_cons_succ]
        refine wpAnyH_take (i := 13) (v := ?vz36) rfl (by kernel_rfl) (by kernel_rfl) (by kernel_rfl) (fun _ _ _ h => h) (Or.inl ⟨by rfl, ?yz36⟩) HSz29.out ?rz36
        case yz36 => (intro w' hSw; clear hSw; go_simp; try with_reducible rfl)
        simp only [List.getElem_toArray, List.getElem_cons_succ, List.getElem_cons_zero, Act.put, List.setIfInBounds_toArray, List.set_cons_zero, List.set_cons_succ]
        refine wpAnyH_take (i := 14) (v := ?vz37) rfl (by kernel_rfl) (by kernel_rfl) (by kernel_rfl) (fun _ _ _ h => h) (Or.inl ⟨by rfl, ?yz37⟩) HSz29.out ?rz37
        case yz37 => (intro w' hSw; clear hSw; go_simp; try with_reducible rfl)
        simp only [List.getElem_toArray, List.getElem_cons_succ, List.getElem_cons_zero, Act.put, List.setIfInBounds_toArray, List.set_cons_zero, List.set_cons_succ]
        refine wpAnyH_done (by kernel_rfl) ?_ _
        change Exit.then _ _ Exit.normal _ _
        go_wp2
        go_ret
        exact ⟨rfl, HBz29.out⟩
      · skip
        rw [hbz31]
        refine wpAnyH_take (i := 9) (v := ?vz38) rfl (by kernel_rfl) (by kernel_rfl) (by kernel_rfl) (fun _ _ _ h => h) (Or.inl ⟨by rfl, ?yz38⟩) HSz29.out ?rz38
        case yz38 => (intro w' hSw; clear hSw; go_simp; try with_reducible rfl)
        simp only [List.getElem_toArray, List.getElem_cons_succ, List.getElem_cons_zero, Act.put, List.setIfInBounds_toArray, List.set_cons_zero, List.set_cons_succ]
        obtain rfl : I = false := by rw [← HI.out]; exact decide_eq_false fun e => absurd (by rw [← HR1.out, ← HR2.out, e]) (of_decide_eq_false hbz31)
        clear hbz31
        refine wpAnyH_take (i := 10) (v := undef) rfl (by kernel_rfl) (by kernel_rfl) (by kernel_rfl) (fun _ _ _ h => h) (Or.inr ⟨by rfl, rfl⟩) HSz29.out ?rz31f10
        simp only [List.getElem_toArray, List.getElem_cons_succ, List.getElem_cons_zero, Act.put, List.setIfInBounds_toArray, List.set_cons_zero, List.set_cons_succ]
        refine wpAnyH_take (i := 11) (v := undef) rfl (by kernel_rfl) (by kernel_rfl) (by kernel_rfl) (fun _ _ _ h => h) (Or.inr ⟨by rfl, rfl⟩) HSz29.out ?rz31f11
        simp only [List.getElem_toArray, List.getElem_cons_succ, List.getElem_cons_zero, Act.put, List.setIfInBounds_toArray, List.set_cons_zero, List.set_cons_succ]
        refine wpAnyH_take (i := 12) (v := undef) rfl (by kernel_rfl) (by kernel_rfl) (by kernel_rfl) (fun _ _ _ h => h) (Or.inr ⟨by rfl, rfl⟩) HSz29.out ?rz31f12
        simp only [List.getElem_toArray, List.getElem_cons_succ, List.getElem_cons_zero, Act.put, List.setIfInBounds_toArray, List.set_cons_zero, List.set_cons_succ]
        refine wpAnyH_take (i := 13) (v := ?vz39) rfl (by kernel_rfl) (by kernel_rfl) (by kernel_rfl) (fun _ _ _ h => h) (Or.inl ⟨by rfl, ?yz39⟩) HSz29.out ?rz39
        case yz39 => (intro w' hSw; clear hSw; go_simp; try with_reducible rfl)
        simp only [List.getElem_toArray, List.getElem_cons_succ, List.getElem_cons_zero, Act.put, List.setIfInBounds_toArray, List.set_cons_zero, List.set_cons_succ]
        refine wpAnyH_take (i := 14) (v := ?vz40) rfl (by kernel_rfl) (by kernel_rfl) (by kernel_rfl) (fun _ _ _ h => h) (Or.inl ⟨by rfl, ?yz40⟩) HSz29.out ?rz40
        case yz40 => (intro w' hSw; clear hSw; go_simp; try with_reducible rfl)
        simp only [List.getElem_toArray, List.getElem_cons_succ, List.getElem_cons_zero, Act.put, List.setIfInBounds_toArray, List.set_cons_zero, List.set_cons_succ]
        refine wpAnyH_done (by kernel_rfl) ?_ _
        change Exit.then _ _ Exit.normal _ _
        go_wp2
        go_ret
        exact ⟨rfl, HBz29.out⟩
  · skip
    simp only [List.getElem_toArray, List.getElem_cons_succ, List.getElem_cons_zero]
    go_simp
    have hBz41 := (Below.refl wd.heap.size wd).alloc (Nat.le_refl _) (.cells #[.slice (some ⟨w1.heap.size, 0, none⟩) 32 32] 22)
    have hPz41 := one_part (txt_of_tag HS0.out.2.2 HTN.out HTL.out) 22
    obtain ⟨pz41, hpz41⟩ : ∃ p, wd.heap.size = p := ⟨_, rfl⟩
    obtain ⟨wz41, hwz41⟩ : ∃ w2, wd.alloc (.cells #[.slice (some ⟨w1.heap.size, 0, none⟩) 32 32] 22) = w2 := ⟨_, rfl⟩
    rw [hwz41] at hBz41 hPz41
    rw [hpz41] at hPz41
    rw [hwz41, hpz41]
    have HSz42 := Lib.hid (HS0.out.below hBz41)
    have HBz42 := Lib.hid (HB2.out.trans (hBz41.mono HB2.out.size))
    have HPz41 := Lib.hid hPz41
    clear hBz41 hPz41 hwz41 hpz41
    refine hK.out _ _ HSz42.out (fun _ => ?_)
    clear hK
    try simp only [List.getElem_toArray, List.getElem_cons_succ, List.getElem_cons_zero, Act.put, List.setIfInBounds_toArray, List.set_cons_zero, List.set_cons_succ]
    refine wpAnyH_ready (rs := [2]) (by kernel_rfl) (by simp) ?_
    refine AllReadyH.cons rfl (fun K' hK => ?_) AllReadyH.nil
    simp only [List.getElem_toArray, List.getElem_cons_succ, List.getElem_cons_zero]
    go_simp
    have hBz43 := (Below.refl wz41.heap.size wz41).alloc (Nat.le_refl _) (.cells #[.slice (some ⟨w.heap.size + 1, 0, none⟩) 32 32] 22)
    have hPz43 := one_part (txt_of_tag HSz42.out.2.1 HXN.out HXL.out) 22
    obtain ⟨pz43, hpz43⟩ : ∃ p, wz41.heap.size = p := ⟨_, rfl⟩
    obtain ⟨wz43, hwz43⟩ : ∃ w2, wz41.alloc (.cells #[.slice (some ⟨w.heap.size + 1, 0, none⟩) 32 32] 22) = w2 := ⟨_, rfl⟩
    rw [hwz43] at hBz43 hPz43
    rw [hpz43] at hPz43
    rw [hwz43, hpz43]
    have HSz44 := Lib.hid (HSz42.out.below hBz43)
    have HBz44 := Lib.hid (HBz42.out.trans (hBz43.mono HBz42.out.size))
    have HPz44x6 := Lib.hid (HPz41.out.below hBz43)
    have HPz43 := Lib.hid hPz43
    clear hBz43 hPz43 hwz43 hpz43
    refine hK.out _ _ HSz44.out (fun _ => ?_)
    clear hK
    try simp only [List.getElem_toArray, List.getElem_cons_succ, List.getElem_cons_zero, Act.put, List.setIfInBounds_toArray, List.set_cons_zero, List.set_cons_succ]
    refine wpAnyH_ready (rs := [3]) (by kernel_rfl) (by simp) ?_
    refine AllReadyH.cons rfl (fun K' hK => ?_) AllReadyH.nil
    simp only [List.getElem_toArray, List.getElem_cons_succ, List.getElem_cons_zero]
    go_simp
    refine (mac_any A1 A2 c1 c2 kt ⟨pz43, 0, none⟩ 1 1 [x] wz43 (HT.out.below HBz44.out hlt) (HK.out.below HBz44.out) HPz43.out (by omega) (by omega) (by have := HXN.out; have := HTN.out; simp only [List.flatten_cons, List.flatten_nil, List.append_nil]; omega) r1 HR1).mono ?_
    rintro e' wz45 ⟨rfl, hBz45⟩
    have HSz46 := Lib.hid (HSz44.out.below hBz45)
    have HBz46 := Lib.hid (HBz44.out.trans (hBz45.mono HBz44.out.size))
    have HPz46x6 := Lib.hid (HPz44x6.out.below hBz45)
    have HPz46x2 := Lib.hid (HPz43.out.below hBz45)
    clear hBz45
    refine hK.out _ _ HSz46.out (fun _ => ?_)
    clear hK
    try simp only [List.getElem_toArray, List.getElem_cons_succ, List.getElem_cons_zero, Act.put, List.setIfInBounds_toArray, List.set_cons_zero, List.set_cons_succ]
    refine wpAnyH_ready (rs := [7]) (by kernel_rfl) (by simp) ?_
    refine AllReadyH.cons rfl (fun K' hK => ?_) AllReadyH.nil
    simp only [List.getElem_toArray, List.getElem_cons_succ, List.getElem_cons_zero]
    go_simp
    refine (mac_any A1 A2 c1 c2 kt ⟨pz41, 0, none⟩ 1 1 [t] wz45 (HT.out.below HBz46.out hlt) (HK.out.below HBz46.out) HPz46x6.out (by omega) (by omega) (by have := HXN.out; have := HTN.out; simp only [List.flatten_cons, List.flatten_nil, List.append_nil]; omega) r2 HR2).mono ?_
    rintro e' wz47 ⟨rfl, hBz47⟩
    have HSz48 := Lib.hid (HSz46.out.below hBz47)
    have HBz48 := Lib.hid (HBz46.out.trans (hBz47.mono HBz46.out.size))
    have HPz48x6 := Lib.hid (HPz46x6.out.below hBz47)
    have HPz48x2 := Lib.hid (HPz46x2.out.below hBz47)
    clear hBz47
    refine hK.out _ _ HSz48.out (fun _ => ?_)
    clear hK
    try simp only [List.getElem_toArray, List.getElem_cons_succ, List.getElem_cons_zero, Act.put, List.setIfInBounds_toArray, List.set_cons_zero, List.set_cons_succ]
    refine wpAnyH_take (i := 8) (v := .bool (decide (r1 = r2))) rfl (by kernel_rfl) (by kernel_rfl) (by kernel_rfl) (fun _ _ _ h => h) (Or.inl ⟨by rfl, ?yz49⟩) HSz48.out ?rz49
    case yz49 => (intro w' hSw; exact exec_eq (.tmp 17) (.tmp 21) _ (by rfl) HL1.out HL2.out (by rfl) (by rfl))
    simp only [List.getElem_toArray, List.getElem_cons_succ, List.getElem_cons_zero, Act.put, List.setIfInBounds_toArray, List.set_cons_zero, List.set_cons_succ]
    rcases Bool.eq_false_or_eq_true (decide (r1 = r2)) with hbz50 | hbz50
    · skip
      rw [hbz50]
      refine wpAnyH_take (i := 9) (v := ?vz51) rfl (by kernel_rfl) (by kernel_rfl) (by kernel_rfl) (fun _ _ _ h => h) (Or.inl ⟨by rfl, ?yz51⟩) HSz48.out ?rz51
      case yz51 => (intro w' hSw; clear hSw; go_simp; try with_reducible rfl)
      simp only [List.getElem_toArray, List.getElem_cons_succ, List.getElem_cons_zero, Act.put, List.setIfInBounds_toArray, List.set_cons_zero, List.set_cons_succ]
      clear hbz50
      refine wpAnyH_take (i := 10) (v := .agg (bcells x).toArray) rfl (by kernel_rfl) (by kernel_rfl) (by kernel_rfl) (fun _ _ _ h => h) (Or.inl ⟨by rfl, ?yz52⟩) HSz48.out ?rz52
      case yz52 => (intro w' hSw; exact exec_load_tag (.tmp 5) (by rfl) _ _ (by rfl) hSw.2.1 HXN.out)
      simp only [List.getElem_toArray, List.getElem_cons_succ, List.getElem_cons_zero, Act.put, List.setIfInBounds_toArray, List.set_cons_zero, List.set_cons_succ]
      refine wpAnyH_take (i := 11) (v := .agg (bcells t).toArray) rfl (by kernel_rfl) (by kernel_rfl) (by kernel_rfl) (fun _ _ _ h => h) (Or.inl ⟨by rfl, ?yz53⟩) HSz48.out ?rz53
      case yz53 => (intro w' hSw; exact exec_load_tag (.tmp 9) (by rfl) _ _ (by rfl) hSw.2.2 HTN.out)
      simp only [List.getElem_toArray, List.getElem_cons_succ, List.getElem_cons_zero, Act.put, List.setIfInBounds_toArray, List.set_cons_zero, List.set_cons_succ]
      refine wpAnyH_take (i := 12) (v := .bool I) rfl (by kernel_rfl) (by kernel_rfl) (by kernel_rfl) (fun _ _ _ h => h) (Or.inl ⟨by rfl, ?yz54⟩) HSz48.out ?rz54
      case yz54 => (intro w' hSw; rw [← HI.out]; exact exec_eq (.tmp 24) (.tmp 25) _ (by rfl) HXN.out HTN.out (by rfl) (by rfl))
      simp only [List.getElem_toArray, List.getElem_cons_succ, List.getElem_cons_zero, Act.put, List.setIfInBounds_toArray, List.set_cons_zero, List.set_cons_succ]
      refine wpAnyH_take (i := 13) (v := ?vz55) rfl (by kernel_rfl) (by kernel_rfl) (by kernel_rfl) (fun _ _ _ h => h) (Or.inl ⟨by rfl, ?yz55⟩) HSz48.out ?rz55
      case yz55 => (intro w' hSw; clear hSw; go_simp; try with_reducible rfl)
      simp only [List.getElem_toArray, List.getElem_cons_succ, List.getElem_cons_zero, Act.put, List.setIfInBounds_toArray, List.set_cons_zero, List.set_cons_succ]
      refine wpAnyH_take (i := 14) (v := ?vz56) rfl (by kernel_rfl) (by kernel_rfl) (by kernel_rfl) (fun _ _ _ h => h) (Or.inl ⟨by rfl, ?yz56⟩) HSz48.out ?rz56
      case yz56 => (intro w' hSw; clear hSw; go_simp; try with_reducible rfl)
      simp only [List.getElem_toArray, List.getElem_cons_succ, List.getElem_cons_zero, Act.put, List.setIfInBounds_toArray, List.set_cons_zero, List.set_cons_succ]
      refine wpAnyH_done (by kernel_rfl) ?_ _
      change Exit.then _ _ Exit.normal _ _
      go_wp2
      go_ret
      exact ⟨rfl, HBz48.out⟩
    · skip
      rw [hbz50]
      refine wpAnyH_take (i := 9) (v := ?vz57) rfl (by kernel_rfl) (by kernel_rfl) (by kernel_rfl) (fun _ _ _ h => h) (Or.inl ⟨by rfl, ?yz57⟩) HSz48.out ?rz57
      case yz57 => (intro w' hSw; clear hSw; go_simp; try with_reducible rfl)
      simp only [List.getElem_toArray, List.getElem_cons_succ, List.getElem_cons_zero, Act.put, List.setIfInBounds_toArray, List.set_cons_zero, List.set_cons_succ]
      obtain rfl : I = false := by rw [← HI.out]; exact decide_eq_false fun e => absurd (by rw [← HR1.out, ← HR2.out, e]) (of_decide_eq_false hbz50)
      clear hbz50
      refine wpAnyH_take (i := 10) (v := undef) rfl (by kernel_rfl) (by kernel_rfl) (by kernel_rfl) (fun _ _ _ h => h) (Or.inr ⟨by rfl, rfl⟩) HSz48.out ?rz50f10
      simp only [List.getElem_toArray, List.getElem_cons_succ, List.getElem_cons_zero, Act.put, List.setIfInBounds_toArray, List.set_cons_zero, List.set_cons_succ]
      refine wpAnyH_take (i := 11) (v := undef) rfl (by kernel_rfl) (by kernel_rfl) (by kernel_rfl) (fun _ _ _ h => h) (Or.inr ⟨by rfl, rfl⟩) HSz48.out ?rz50f11
      simp only [List.getElem_toArray, List.getElem_cons_succ, List.getElem_cons_zero, Act.put, List.setIfInBounds_toArray, List.set_cons_zero, List.set_cons_succ]
      refine wpAnyH_take (i := 12) (v := undef) rfl (by kernel_rfl) (by kernel_rfl) (by kernel_rfl) (fun _ _ _ h => h) (Or.inr ⟨by rfl, rfl⟩) HSz48.out ?rz50f12
      simp only [List.getElem_toArray, List.getElem_cons_succ, List.getElem_cons_zero, Act.put, List.setIfInBounds_toArray, List.set_cons_zero, List.set_cons_succ]
      refine wpAnyH_take (i := 13) (v := ?vz58) rfl (by kernel_rfl) (by kernel_rfl) (by kernel_rfl) (fun _ _ _ h => h) (Or.inl ⟨by rfl, ?yz58⟩) HSz48.out ?rz58
      case yz58 => (intro w' hSw; clear hSw; go_simp; try with_reducible rfl)
      simp only [List.getElem_toArray, List.getElem_cons_succ, List.getElem_cons_zero, Act.put, List.setIfInBounds_toArray, List.set_cons_zero, List.set_cons_succ]
      refine wpAnyH_take (i := 14) (v := ?vz59) rfl (by kernel_rfl) (by kernel_rfl) (by kernel_rfl) (fun _ _ _ h => h) (Or.inl ⟨by rfl, ?yz59⟩) HSz48.out ?rz59
      case yz59 => (intro w' hSw; clear hSw; go_simp; try with_reducible rfl)
      simp only [List.getElem_toArray, List.getElem_cons_succ, List.getElem_cons_zero, Act.put, List.setIfInBounds_toArray, List.set_cons_zero, List.set_cons_succ]
      refine wpAnyH_done (by kernel_rfl) ?_ _
      change Exit.then _ _ Exit.normal _ _
      go_wp2
      go_ret
      exact ⟨rfl, HBz48.out⟩
end Go.Proofs.YtfhibjpkbbbfpaaDoor.Bx
