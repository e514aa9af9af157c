/- Walks: isTag: two tags' own tags are compared. Written by tools/mk_bxistag.py. -/
import Derived.Test.YtdoflabkibfmnaaDoorBxWalkE
import Derived.Test.YtdoflabkibfmnaaDoorBxEq
namespace Go.Proofs.YtdoflabkibfmnaaDoor.Bx
set_option linter.all false
open Go.RowKit Wr

/-- a key's own keys, and two tags, in their blocks -/
def In3 (g4 : Nat) (A1 : Option Addr) (c1 : Nat) (A2 : Option Addr) (c2 g5 : Nat) (x : List Nat) (g9 : Nat) (t : List Nat) (w : World) : Prop :=
  KeysIn g4 A1 c1 A2 c2 w ∧ w.heap[g5]? = some (.cells (bcells x).toArray 37 (0, 0)) ∧ w.heap[g9]? = some (.cells (bcells t).toArray 37 (0, 0))
theorem In3.below {g4 : Nat} {A1 A2 : Option Addr} {c1 c2 g5 g9 : Nat} {x t : List Nat} {w w' : World} (h : In3 g4 A1 c1 A2 c2 g5 x g9 t w) (hb : Below w.heap.size w w') : In3 g4 A1 c1 A2 c2 g5 x g9 t w' :=
  ⟨h.1.below hb, (hb.block g5 (Array.getElem?_eq_some_iff.1 h.2.1).1).trans h.2.1, (hb.block g9 (Array.getElem?_eq_some_iff.1 h.2.2).1).trans h.2.2⟩

set_option maxHeartbeats 8000000 in
set_option maxRecDepth 100000 in
theorem isTag_any (A1 A2 : Option Addr) (c1 c2 : Nat) (kt a b x : List Nat) (A B : Option Addr) (na ca nb cb : Nat) (w : World) (hT : Tabs w) (hK2 : Txt Any w A2 32 c2 kt) (hA : Txt Any w A na ca a) (hB : Txt Any w B nb cb b) (hma : na ≤ 32768) (hmb : nb ≤ 32768)
    (hxn : x.length = 32) (hxl : ∀ j, gt x j < 256) :
    Calls Tryd.prog 18 #[.agg #[.slice A1 32 c1, .slice A2 32 c2], .agg (bcells x).toArray, .slice A na ca, .slice B nb cb] w fun e w' => e = .returned (.bool (decide (Sha.mac kt x = Sha.mac kt (tg kt a b)))) ∧ Below w.heap.size w w' := by
  have hlt := hT.lt
  have HT := Lib.hid hT; have HK := Lib.hid hK2; have HA := Lib.hid hA; have HB' := Lib.hid hB; have HXN := Lib.hid hxn; have HXL := Lib.hid hxl; clear hT hK2 hA hB hxn hxl
  obtain ⟨t, ht⟩ : ∃ t, tg kt a b = t := ⟨_, rfl⟩
  obtain ⟨r1, hr1⟩ : ∃ r, Sha.mac kt x = r := ⟨_, rfl⟩
  obtain ⟨r2, hr2⟩ : ∃ r, Sha.mac kt t = r := ⟨_, rfl⟩
  rw [ht, hr1, hr2]
  have HTG := Lib.hid ht
  have HTN : Hid (t.length = 32) := Lib.hid (by rw [← ht]; exact tg_len _ _ _)
  have HTL : Hid (∀ j, gt t j < 256) := Lib.hid (by rw [← ht]; exact tg_lt _ _ _)
  have HL1 : Hid (r1.length = 32) := Lib.hid (by rw [← hr1]; exact Sha.mac_len _ _)
  have HL2 : Hid (r2.length = 32) := Lib.hid (by rw [← hr2]; exact Sha.mac_len _ _)
  have HR1 : Hid (Sha.mac kt [x].flatten = r1) := Lib.hid (by simpa using hr1)
  have HR2 : Hid (Sha.mac kt [t].flatten = r2) := Lib.hid (by simpa using hr2)
  clear ht hr1 hr2
  obtain ⟨Z, hz, hZ⟩ := zero_tag
  have HZ := Lib.hid hZ; clear hZ
  have e1 : (w.alloc (.cells #[.slice A1 32 c1, .slice A2 32 c2] 33)).heap.size = w.heap.size + 1 := by simp
  have HG4 : Hid (KeysIn w.heap.size A1 c1 A2 c2 ((w.alloc (.cells #[.slice A1 32 c1, .slice A2 32 c2] 33)).alloc (.cells (bcells x).toArray 37))) :=
    Lib.hid ((Below.heap_alloc _ _ _ (by rw [e1]; omega)).trans (heap_alloc_last w _))
  have g2 := heap_alloc_last (w.alloc (.cells #[.slice A1 32 c1, .slice A2 32 c2] 33)) (.cells (bcells x).toArray 37)
  rw [e1] at g2
  have HG5 := Lib.hid g2
  have HB := Lib.hid (((Below.refl w.heap.size w).alloc (Nat.le_refl _) (.cells #[.slice A1 32 c1, .slice A2 32 c2] 33)).alloc (by simp) (.cells (bcells x).toArray 37))
  clear g2 e1
  go_enter Tryd.func18, Tryd.ntmps18
  go_wp2_with fail
  obtain ⟨W0, hW0⟩ : ∃ W0, ((w.alloc (.cells #[.slice A1 32 c1, .slice A2 32 c2] 33)).alloc (.cells (bcells x).toArray 37)) = W0 := ⟨_, rfl⟩
  rw [hW0] at HG4 HG5 HB
  rw [hW0]
  clear hW0
  refine (tagOf_any A1 A2 c1 c2 kt a b A B na ca nb cb W0 (HT.out.below HB.out hlt) (HK.out.below HB.out) (HA.out.below HB.out) (HB'.out.below HB.out) hma hmb t HTG).mono ?_
  rintro e' w1 ⟨rfl, hB1⟩
  have HG4' := Lib.hid (HG4.out.below hB1)
  have HG5' := Lib.hid ((hB1.block _ (Array.getElem?_eq_some_iff.1 HG5.out).1).trans HG5.out)
  have HB1 := Lib.hid (HB.out.trans (hB1.mono HB.out.size))
  clear hB1 HG4 HG5
  have HQ9 := Lib.hid (heap_alloc_last w1 (.cells Z 37))
  have hlt5 := (Array.getElem?_eq_some_iff.1 HG5'.out).1
  have hlt4 := HG4'.out.lt
  go_wp2_with (refine wpList_store_row rfl 37 (.tmp 9) (.tmp 13) rfl w1.heap.size (bcells t).toArray rfl rfl 37 Z HQ9.out (tag_sized HTN.out) (by rw [HZ.out, List.size_toArray, bcells_len, HTN.out]) (bcells_all t) ?_)
  obtain ⟨w2, hw2⟩ : ∃ w2, (w1.alloc (.cells Z 37)).setRow w1.heap.size (bcells t).toArray = w2 := ⟨_, rfl⟩
  rw [hw2]
  have hB2 : Below w1.heap.size w1 w2 := by rw [← hw2]; exact below_setRow ((Below.refl w1.heap.size w1).alloc (Nat.le_refl _) _) (Nat.le_refl _) _
  have hq2 : w2.heap[w1.heap.size]? = some (.cells (bcells t).toArray 37 (0, 0)) := by rw [← hw2]; exact setRow_heap _ _ _ _ _ _ HQ9.out
  have HS0 : Hid (In3 w.heap.size A1 c1 A2 c2 (w.heap.size + 1) x w1.heap.size t w2) := Lib.hid ⟨HG4'.out.below hB2, (hB2.block _ hlt5).trans HG5'.out, hq2⟩
  have HB2 := Lib.hid (HB1.out.trans (hB2.mono HB1.out.size))
  clear hB2 hq2 hw2 HQ9 HG4' HG5'
  have hw5 := run_whole (w.heap.size + 1)
  have hw9 := run_whole w1.heap.size
  simp only [Act.put]
  refine region_calm ?_
  refine wp_region_any (by kernel_rfl) ?_
  change wpAny _ _ _ _ _ _ _ (World.drew w2)
  replace HS0 := Lib.hid (show In3 w.heap.size A1 c1 A2 c2 (w.heap.size + 1) x w1.heap.size t w2.drew from HS0.out)
  replace HB2 := Lib.hid HB2.out.drew
  generalize w2.drew = wd at *
  refine wpAny_of_held (S := In3 w.heap.size A1 c1 A2 c2 (w.heap.size + 1) x w1.heap.size t) _ _ _ _ ?_
  refine wpAnyH_take (i := 0) (v := ?vz1) rfl (by kernel_rfl) (by kernel_rfl) (by kernel_rfl) (fun _ _ _ h => h) (Or.inl ⟨by rfl, ?yz1⟩) HS0.out ?rz1
  case yz1 => (intro w' hSw; have q0 := hSw.1.cell0; have q1 := hSw.1.cell1; clear hSw; go_simp; try with_reducible rfl)
  simp only [List.getElem_toArray, List.getElem_cons_succ, List.getElem_cons_zero, Act.put, List.setIfInBounds_toArray, List.set_cons_zero, List.set_cons_succ]
  refine wpAnyH_take (i := 1) (v := ?vz2) rfl (by kernel_rfl) (by kernel_rfl) (by kernel_rfl) (fun _ _ _ h => h) (Or.inl ⟨by rfl, ?yz2⟩) HS0.out ?rz2
  case yz2 => (intro w' hSw; clear hSw; go_simp; try with_reducible rfl)
  simp only [List.getElem_toArray, List.getElem_cons_succ, List.getElem_cons_zero, Act.put, List.setIfInBounds_toArray, List.set_cons_zero, List.set_cons_succ]
  refine wpAnyH_take (i := 4) (v := ?vz3) rfl (by kernel_rfl) (by kernel_rfl) (by kernel_rfl) (fun _ _ _ h => h) (Or.inl ⟨by rfl, ?yz3⟩) HS0.out ?rz3
  case yz3 => (intro w' hSw; have q0 := hSw.1.cell0; have q1 := hSw.1.cell1; clear hSw; go_simp; try with_reducible rfl)
  simp only [List.getElem_toArray, List.getElem_cons_succ, List.getElem_cons_zero, Act.put, List.setIfInBounds_toArray, List.set_cons_zero, List.set_cons_succ]
  refine wpAnyH_take (i := 5) (v := ?vz4) rfl (by kernel_rfl) (by kernel_rfl) (by kernel_rfl) (fun _ _ _ h => h) (Or.inl ⟨by rfl, ?yz4⟩) HS0.out ?rz4
  case yz4 => (intro w' hSw; clear hSw; go_simp; try with_reducible rfl)
  simp only [List.getElem_toArray, List.getElem_cons_succ, List.getElem_cons_zero, Act.put, List.setIfInBounds_toArray, List.set_cons_zero, List.set_cons_succ]
  refine wpAnyH_ready (rs := [2, 6]) (by kernel_rfl) (by simp) ?_
  refine AllReadyH.cons rfl (fun K' hK => ?_) (AllReadyH.cons rfl (fun K' hK => ?_) AllReadyH.nil)
  · skip
    simp only [List.getElem_toArray, List.getElem_cons_succ, List.getElem_cons_zero]
    go_simp
    have hBz5 := (Below.refl wd.heap.size wd).alloc (Nat.le_refl _) (.cells #[.slice (some ⟨w.heap.size + 1, 0, none⟩) 32 32] 22)
    have hPz5 := one_part (txt_of_tag HS0.out.2.1 HXN.out HXL.out) 22
    obtain ⟨pz5, hpz5⟩ : ∃ p, wd.heap.size = p := ⟨_, rfl⟩
    obtain ⟨wz5, hwz5⟩ : ∃ w2, wd.alloc (.cells #[.slice (some ⟨w.heap.size + 1, 0, none⟩) 32 32] 22) = w2 := ⟨_, rfl⟩
    rw [hwz5] at hBz5 hPz5
    rw [hpz5] at hPz5
    rw [hwz5, hpz5]
    have HSz6 := Lib.hid (HS0.out.below hBz5)
    have HBz6 := Lib.hid (HB2.out.trans (hBz5.mono HB2.out.size))
    have HPz5 := Lib.hid hPz5
    clear hBz5 hPz5 hwz5 hpz5
    refine hK.out _ _ HSz6.out (fun _ => ?_)
    clear hK
    try simp only [List.getElem_toArray, List.getElem_cons_succ, List.getElem_cons_zero, Act.put, List.setIfInBounds_toArray, List.set_cons_zero, List.set_cons_succ]
    refine wpAnyH_ready (rs := [3, 6]) (by kernel_rfl) (by simp) ?_
    refine AllReadyH.cons rfl (fun K' hK => ?_) (AllReadyH.cons rfl (fun K' hK => ?_) AllReadyH.nil)
    · skip
      simp only [List.getElem_toArray, List.getElem_cons_succ, List.getElem_cons_zero]
      go_simp
      refine (mac_any A1 A2 c1 c2 kt ⟨pz5, 0, none⟩ 1 1 [x] wz5 (HT.out.below HBz6.out hlt) (HK.out.below HBz6.out) HPz5.out (by omega) (by omega) (by have := HXN.out; have := HTN.out; simp only [List.flatten_cons, List.flatten_nil, List.append_nil]; omega) r1 HR1).mono ?_
      rintro e' wz7 ⟨rfl, hBz7⟩
      have HSz8 := Lib.hid (HSz6.out.below hBz7)
      have HBz8 := Lib.hid (HBz6.out.trans (hBz7.mono HBz6.out.size))
      have HPz8x2 := Lib.hid (HPz5.out.below hBz7)
      clear hBz7
      refine hK.out _ _ HSz8.out (fun _ => ?_)
      clear hK
      try simp only [List.getElem_toArray, List.getElem_cons_succ, List.getElem_cons_zero, Act.put, List.setIfInBounds_toArray, List.set_cons_zero, List.set_cons_succ]
      refine wpAnyH_ready (rs := [6]) (by kernel_rfl) (by simp) ?_
      refine AllReadyH.cons rfl (fun K' hK => ?_) AllReadyH.nil
      simp only [List.getElem_toArray, List.getElem_cons_succ, List.getElem_cons_zero]
      go_simp
      have hBz9 := (Below.refl wz7.heap.size wz7).alloc (Nat.le_refl _) (.cells #[.slice (some ⟨w1.heap.size, 0, none⟩) 32 32] 22)
      have hPz9 := one_part (txt_of_tag HSz8.out.2.2 HTN.out HTL.out) 22
      obtain ⟨pz9, hpz9⟩ : ∃ p, wz7.heap.size = p := ⟨_, rfl⟩
      obtain ⟨wz9, hwz9⟩ : ∃ w2, wz7.alloc (.cells #[.slice (some ⟨w1.heap.size, 0, none⟩) 32 32] 22) = w2 := ⟨_, rfl⟩
      rw [hwz9] at hBz9 hPz9
      rw [hpz9] at hPz9
      rw [hwz9, hpz9]
      have HSz10 := Lib.hid (HSz8.out.below hBz9)
      have HBz10 := Lib.hid (HBz8.out.trans (hBz9.mono HBz8.out.size))
      have HPz10x2 := Lib.hid (HPz8x2.out.below hBz9)
      have HPz9 := Lib.hid hPz9
      clear hBz9 hPz9 hwz9 hpz9
      refine hK.out _ _ HSz10.out (fun _ => ?_)
      clear hK
      try simp only [List.getElem_toArray, List.getElem_cons_succ, List.getElem_cons_zero, Act.put, List.setIfInBounds_toArray, List.set_cons_zero, List.set_cons_succ]
      refine wpAnyH_ready (rs := [7]) (by kernel_rfl) (by simp) ?_
      refine AllReadyH.cons rfl (fun K' hK => ?_) AllReadyH.nil
      simp only [List.getElem_toArray, List.getElem_cons_succ, List.getElem_cons_zero]
      go_simp
      refine (mac_any A1 A2 c1 c2 kt ⟨pz9, 0, none⟩ 1 1 [t] wz9 (HT.out.below HBz10.out hlt) (HK.out.below HBz10.out) HPz9.out (by omega) (by omega) (by have := HXN.out; have := HTN.out; simp only [List.flatten_cons, List.flatten_nil, List.append_nil]; omega) r2 HR2).mono ?_
      rintro e' wz11 ⟨rfl, hBz11⟩
      have HSz12 := Lib.hid (HSz10.out.below hBz11)
      have HBz12 := Lib.hid (HBz10.out.trans (hBz11.mono HBz10.out.size))
      have HPz12x2 := Lib.hid (HPz10x2.out.below hBz11)
      have HPz12x6 := Lib.hid (HPz9.out.below hBz11)
      clear hBz11
      refine hK.out _ _ HSz12.out (fun _ => ?_)
      clear hK
      try simp only [List.getElem_toArray, List.getElem_cons_succ, List.getElem_cons_zero, Act.put, List.setIfInBounds_toArray, List.set_cons_zero, List.set_cons_succ]
      refine wpAnyH_take (i := 8) (v := .bool (decide (r1 = r2))) rfl (by kernel_rfl) (by kernel_rfl) (by kernel_rfl) (fun _ _ _ h => h) (Or.inl ⟨by rfl, ?yz13⟩) HSz12.out ?rz13
      case yz13 => (intro w' hSw; exact exec_eq (.tmp 17) (.tmp 21) _ (by rfl) HL1.out HL2.out (by rfl) (by rfl))
      simp only [List.getElem_toArray, List.getElem_cons_succ, List.getElem_cons_zero, Act.put, List.setIfInBounds_toArray, List.set_cons_zero, List.set_cons_succ]
      refine wpAnyH_take (i := 9) (v := ?vz14) rfl (by kernel_rfl) (by kernel_rfl) (by kernel_rfl) (fun _ _ _ h => h) (Or.inl ⟨by rfl, ?yz14⟩) HSz12.out ?rz14
      case yz14 => (intro w' hSw; clear hSw; go_simp; try with_reducible rfl)
      simp only [List.getElem_toArray, List.getElem_cons_succ, List.getElem_cons_zero, Act.put, List.setIfInBounds_toArray, List.set_cons_zero, List.set_cons_succ]
      refine wpAnyH_done (by kernel_rfl) ?_ _
      change Exit.then _ _ Exit.normal _ _
      go_wp2
      go_ret
      exact ⟨rfl, HBz12.out⟩
    · skip
      simp only [List.getElem_toArray, List.getElem_cons_succ, List.getElem_cons_zero]
      go_simp
      have hBz15 := (Below.refl wz5.heap.size wz5).alloc (Nat.le_refl _) (.cells #[.slice (some ⟨w1.heap.size, 0, none⟩) 32 32] 22)
      have hPz15 := one_part (txt_of_tag HSz6.out.2.2 HTN.out HTL.out) 22
      obtain ⟨pz15, hpz15⟩ : ∃ p, wz5.heap.size = p := ⟨_, rfl⟩
      obtain ⟨wz15, hwz15⟩ : ∃ w2, wz5.alloc (.cells #[.slice (some ⟨w1.heap.size, 0, none⟩) 32 32] 22) = w2 := ⟨_, rfl⟩
      rw [hwz15] at hBz15 hPz15
      rw [hpz15] at hPz15
      rw [hwz15, hpz15]
      have HSz16 := Lib.hid (HSz6.out.below hBz15)
      have HBz16 := Lib.hid (HBz6.out.trans (hBz15.mono HBz6.out.size))
      have HPz16x2 := Lib.hid (HPz5.out.below hBz15)
      have HPz15 := Lib.hid hPz15
      clear hBz15 hPz15 hwz15 hpz15
      refine hK.out _ _ HSz16.out (fun _ => ?_)
      clear hK
      try simp only [List.getElem_toArray, List.getElem_cons_succ, List.getElem_cons_zero, Act.put, List.setIfInBounds_toArray, List.set_cons_zero, List.set_cons_succ]
      refine wpAnyH_ready (rs := [3]) (by kernel_rfl) (by simp) ?_
      refine AllReadyH.cons rfl (fun K' hK => ?_) AllReadyH.nil
      simp only [List.getElem_toArray, List.getElem_cons_succ, List.getElem_cons_zero]
      go_simp
      refine (mac_any A1 A2 c1 c2 kt ⟨pz5, 0, none⟩ 1 1 [x] wz15 (HT.out.below HBz16.out hlt) (HK.out.below HBz16.out) HPz16x2.out (by omega) (by omega) (by have := HXN.out; have := HTN.out; simp only [List.flatten_cons, List.flatten_nil, List.append_nil]; omega) r1 HR1).mono ?_
      rintro e' wz17 ⟨rfl, hBz17⟩
      have HSz18 := Lib.hid (HSz16.out.below hBz17)
      have HBz18 := Lib.hid (HBz16.out.trans (hBz17.mono HBz16.out.size))
      have HPz18x2 := Lib.hid (HPz16x2.out.below hBz17)
      have HPz18x6 := Lib.hid (HPz15.out.below hBz17)
      clear hBz17
      refine hK.out _ _ HSz18.out (fun _ => ?_)
      clear hK
      try simp only [List.getElem_toArray, List.getElem_cons_succ, List.getElem_cons_zero, Act.put, List.setIfInBounds_toArray, List.set_cons_zero, List.set_cons_succ]
      refine wpAnyH_ready (rs := [7]) (by kernel_rfl) (by simp) ?_
      refine AllReadyH.cons rfl (fun K' hK => ?_) AllReadyH.nil
      simp only [List.getElem_toArray, List.getElem_cons_succ, List.getElem_cons_zero]
      go_simp
      refine (mac_any A1 A2 c1 c2 kt ⟨pz15, 0, none⟩ 1 1 [t] wz17 (HT.out.below HBz18.out hlt) (HK.out.below HBz18.out) HPz18x6.out (by omega) (by omega) (by have := HXN.out; have := HTN.out; simp only [List.flatten_cons, List.flatten_nil, List.append_nil]; omega) r2 HR2).mono ?_
      rintro e' wz19 ⟨rfl, hBz19⟩
      have HSz20 := Lib.hid (HSz18.out.below hBz19)
      have HBz20 := Lib.hid (HBz18.out.trans (hBz19.mono HBz18.out.size))
      have HPz20x2 := Lib.hid (HPz18x2.out.below hBz19)
      have HPz20x6 := Lib.hid (HPz18x6.out.below hBz19)
      clear hBz19
      refine hK.out _ _ HSz20.out (fun _ => ?_)
      clear hK
      try simp only [List.getElem_toArray, List.getElem_cons_succ, List.getElem_cons_zero, Act.put, List.setIfInBounds_toArray, List.set_cons_zero, List.set_cons_succ]
      refine wpAnyH_take (i := 8) (v := .bool (decide (r1 = r2))) rfl (by kernel_rfl) (by kernel_rfl) (by kernel_rfl) (fun _ _ _ h => h) (Or.inl ⟨by rfl, ?yz21⟩) HSz20.out ?rz21
      case yz21 => (intro w' hSw; exact exec_eq (.tmp 17) (.tmp 21) _ (by rfl) HL1.out HL2.out (by rfl) (by rfl))
      simp only [List.getElem_toArray, List.getElem_cons_succ, List.getElem_cons_zero, Act.put, List.setIfInBounds_toArray, List.set_cons_zero, List.set_cons_succ]
      refine wpAnyH_take (i := 9) (v := ?vz22) rfl (by kernel_rfl) (by kernel_rfl) (by kernel_rfl) (fun _ _ _ h => h) (Or.inl ⟨by rfl, ?yz22⟩) HSz20.out ?rz22
      case yz22 => (intro w' hSw; clear hSw; go_simp; try with_reducible rfl)
      simp only [List.getElem_toArray, List.getElem_cons_succ, List.getElem_cons_zero, Act.put, List.setIfInBounds_toArray, List.set_cons_zero, List.set_cons_succ]
      refine wpAnyH_done (by kernel_rfl) ?_ _
      change Exit.then _ _ Exit.normal _ _
      go_wp2
      go_ret
      exact ⟨rfl, HBz20.out⟩
  · skip
    simp only [List.getElem_toArray, List.getElem_cons_succ, List.getElem_cons_zero]
    go_simp
    have hBz23 := (Below.refl wd.heap.size wd).alloc (Nat.le_refl _) (.cells #[.slice (some ⟨w1.heap.size, 0, none⟩) 32 32] 22)
    have hPz23 := one_part (txt_of_tag HS0.out.2.2 HTN.out HTL.out) 22
    obtain ⟨pz23, hpz23⟩ : ∃ p, wd.heap.size = p := ⟨_, rfl⟩
    obtain ⟨wz23, hwz23⟩ : ∃ w2, wd.alloc (.cells #[.slice (some ⟨w1.heap.size, 0, none⟩) 32 32] 22) = w2 := ⟨_, rfl⟩
    rw [hwz23] at hBz23 hPz23
    rw [hpz23] at hPz23
    rw [hwz23, hpz23]
    have HSz24 := Lib.hid (HS0.out.below hBz23)
    have HBz24 := Lib.hid (HB2.out.trans (hBz23.mono HB2.out.size))
    have HPz23 := Lib.hid hPz23
    clear hBz23 hPz23 hwz23 hpz23
    refine hK.out _ _ HSz24.out (fun _ => ?_)
    clear hK
    try simp only [List.getElem_toArray, List.getElem_cons_succ, List.getElem_cons_zero, Act.put, List.setIfInBounds_toArray, List.set_cons_zero, List.set_cons_succ]
    refine wpAnyH_ready (rs := [2]) (by kernel_rfl) (by simp) ?_
    refine AllReadyH.cons rfl (fun K' hK => ?_) AllReadyH.nil
    simp only [List.getElem_toArray, List.getElem_cons_succ, List.getElem_cons_zero]
    go_simp
    have hBz25 := (Below.refl wz23.heap.size wz23).alloc (Nat.le_refl _) (.cells #[.slice (some ⟨w.heap.size + 1, 0, none⟩) 32 32] 22)
    have hPz25 := one_part (txt_of_tag HSz24.out.2.1 HXN.out HXL.out) 22
    obtain ⟨pz25, hpz25⟩ : ∃ p, wz23.heap.size = p := ⟨_, rfl⟩
    obtain ⟨wz25, hwz25⟩ : ∃ w2, wz23.alloc (.cells #[.slice (some ⟨w.heap.size + 1, 0, none⟩) 32 32] 22) = w2 := ⟨_, rfl⟩
    rw [hwz25] at hBz25 hPz25
    rw [hpz25] at hPz25
    rw [hwz25, hpz25]
    have HSz26 := Lib.hid (HSz24.out.below hBz25)
    have HBz26 := Lib.hid (HBz24.out.trans (hBz25.mono HBz24.out.size))
    have HPz26x6 := Lib.hid (HPz23.out.below hBz25)
    have HPz25 := Lib.hid hPz25
    clear hBz25 hPz25 hwz25 hpz25
    refine hK.out _ _ HSz26.out (fun _ => ?_)
    clear hK
    try simp only [List.getElem_toArray, List.getElem_cons_succ, List.getElem_cons_zero, Act.put, List.setIfInBounds_toArray, List.set_cons_zero, List.set_cons_succ]
    refine wpAnyH_ready (rs := [3]) (by kernel_rfl) (by simp) ?_
    refine AllReadyH.cons rfl (fun K' hK => ?_) AllReadyH.nil
    simp only [List.getElem_toArray, List.getElem_cons_succ, List.getElem_cons_zero]
    go_simp
    refine (mac_any A1 A2 c1 c2 kt ⟨pz25, 0, none⟩ 1 1 [x] wz25 (HT.out.below HBz26.out hlt) (HK.out.below HBz26.out) HPz25.out (by omega) (by omega) (by have := HXN.out; have := HTN.out; simp only [List.flatten_cons, List.flatten_nil, List.append_nil]; omega) r1 HR1).mono ?_
    rintro e' wz27 ⟨rfl, hBz27⟩
    have HSz28 := Lib.hid (HSz26.out.below hBz27)
    have HBz28 := Lib.hid (HBz26.out.trans (hBz27.mono HBz26.out.size))
    have HPz28x6 := Lib.hid (HPz26x6.out.below hBz27)
    have HPz28x2 := Lib.hid (HPz25.out.below hBz27)
    clear hBz27
    refine hK.out _ _ HSz28.out (fun _ => ?_)
    clear hK
    try simp only [List.getElem_toArray, List.getElem_cons_succ, List.getElem_cons_zero, Act.put, List.setIfInBounds_toArray, List.set_cons_zero, List.set_cons_succ]
    refine wpAnyH_ready (rs := [7]) (by kernel_rfl) (by simp) ?_
    refine AllReadyH.cons rfl (fun K' hK => ?_) AllReadyH.nil
    simp only [List.getElem_toArray, List.getElem_cons_succ, List.getElem_cons_zero]
    go_simp
    refine (mac_any A1 A2 c1 c2 kt ⟨pz23, 0, none⟩ 1 1 [t] wz27 (HT.out.below HBz28.out hlt) (HK.out.below HBz28.out) HPz28x6.out (by omega) (by omega) (by have := HXN.out; have := HTN.out; simp only [List.flatten_cons, List.flatten_nil, List.append_nil]; omega) r2 HR2).mono ?_
    rintro e' wz29 ⟨rfl, hBz29⟩
    have HSz30 := Lib.hid (HSz28.out.below hBz29)
    have HBz30 := Lib.hid (HBz28.out.trans (hBz29.mono HBz28.out.size))
    have HPz30x6 := Lib.hid (HPz28x6.out.below hBz29)
    have HPz30x2 := Lib.hid (HPz28x2.out.below hBz29)
    clear hBz29
    refine hK.out _ _ HSz30.out (fun _ => ?_)
    clear hK
    try simp only [List.getElem_toArray, List.getElem_cons_succ, List.getElem_cons_zero, Act.put, List.setIfInBounds_toArray, List.set_cons_zero, List.set_cons_succ]
    refine wpAnyH_take (i := 8) (v := .bool (decide (r1 = r2))) rfl (by kernel_rfl) (by kernel_rfl) (by kernel_rfl) (fun _ _ _ h => h) (Or.inl ⟨by rfl, ?yz31⟩) HSz30.out ?rz31
    case yz31 => (intro w' hSw; exact exec_eq (.tmp 17) (.tmp 21) _ (by rfl) HL1.out HL2.out (by rfl) (by rfl))
    simp only [List.getElem_toArray, List.getElem_cons_succ, List.getElem_cons_zero, Act.put, List.setIfInBounds_toArray, List.set_cons_zero, List.set_cons_succ]
    refine wpAnyH_take (i := 9) (v := ?vz32) rfl (by kernel_rfl) (by kernel_rfl) (by kernel_rfl) (fun _ _ _ h => h) (Or.inl ⟨by rfl, ?yz32⟩) HSz30.out ?rz32
    case yz32 => (intro w' hSw; clear hSw; go_simp; try with_reducible rfl)
    simp only [List.getElem_toArray, List.getElem_cons_succ, List.getElem_cons_zero, Act.put, List.setIfInBounds_toArray, List.set_cons_zero, List.set_cons_succ]
    refine wpAnyH_done (by kernel_rfl) ?_ _
    change Exit.then _ _ Exit.normal _ _
    go_wp2
    go_ret
    exact ⟨rfl, HBz30.out⟩
end Go.Proofs.YtdoflabkibfmnaaDoor.Bx
