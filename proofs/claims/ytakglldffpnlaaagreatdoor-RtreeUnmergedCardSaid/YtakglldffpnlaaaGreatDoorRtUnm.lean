/- RtreeUnmerged: the walk. Written by tools/mk_rtunm.py. -/
import Derived.Test.YtakglldffpnlaaaGreatDoorRtLawA
import Derived.Test.YtakglldffpnlaaaGreatDoorRtUnmP
import Derived.Test.YtakglldffpnlaaaGreatDoorRtSame
import Derived.Test.YtakglldffpnlaaaGreatDoorRtM5
import Derived.Test.YtakglldffpnlaaaGreatDoorRtWalkS
namespace Go.Proofs.YtakglldffpnlaaaGreatDoor.Rt
set_option linter.all false
set_option pp.maxSteps 200000
set_option pp.deepTerms true
open Go.RowKit
open Wr (Txt Any New)

set_option maxHeartbeats 8000000 in
set_option maxRecDepth 100000 in
theorem rtreeUnmerged_walk (D : Int) (A : Option Addr) (n c : Nat) (ns : List Nd) (nb ib : Int) (w : World) (hT : Tabs w) (hN : Nodes Any Any w A n c ns) (v1 : (Lit.int .u8 nb).wf = true) (v2 : (Lit.int .u8 ib).wf = true) :
    Calls Tryz.prog 5 #[.agg #[.int .i64 D, .slice A n c], .int .u8 nb, .int .u8 ib] w fun x w' => x = .returned (.bool true) ∧ Below w.heap.size w w' := by
  obtain ⟨nb, rfl, hnb⟩ : ∃ k : Nat, nb = k ∧ k < 256 := by
    simp [Lit.wf, IntKind.min, IntKind.max, IntKind.bits, IntKind.signed] at v1
    exact ⟨nb.toNat, by omega, by omega⟩
  obtain ⟨ib, rfl, hib⟩ : ∃ k : Nat, ib = k ∧ k < 256 := by
    simp [Lit.wf, IntKind.min, IntKind.max, IntKind.bits, IntKind.signed] at v2
    exact ⟨ib.toNat, by omega, by omega⟩
  obtain ⟨W0, hW0, g1, hB0⟩ := one_new w D A n c
  have B0 := Lib.hid hB0
  have HN0 := Lib.hid hN; have HN := Lib.hid (hN.below hB0); have HT := Lib.hid (hT.below hB0)
  have HG1 := Lib.hid g1; have HL1 := Lib.hid g1.lt
  clear hN hT g1 hB0 v1 v2
  go_enter Tryz.func5, Tryz.ntmps5
  go_wp2_with fail
  refine (head_true _ HT.out).mono ?_
  rintro e' w1 ⟨rfl, hb⟩
  have HC1 := Lib.hid hb
  clear hb
  obtain ⟨s0, s1⟩ := (HG1.out.below HC1.out HL1.out).cs
  go_wp2_with fail
  refine (great_any D A n c ns _ (HN.out.below HC1.out)).mono ?_
  rintro e' w2 ⟨⟨bg, rfl⟩, hb⟩
  have HC2 := Lib.hid (HC1.out.trans (hb.mono HC1.out.size))
  clear hb s0 s1
  obtain ⟨s0, s1⟩ := (HG1.out.below HC2.out HL1.out).cs
  cases bg
  case true =>
    go_wp2
    go_ret
    exact ⟨rfl, B0.out.trans (HC2.out.mono B0.out.size)⟩
  by_cases hr : RightT D ns
  case neg =>
    go_wp2_with fail
    refine (refRight_is D A n c ns false _ (HN.out.below HC2.out) (by simp [hr])).mono ?_
    rintro e' w3 ⟨rfl, hb⟩
    have HC3 := Lib.hid (HC2.out.trans (hb.mono HC2.out.size))
    clear hb s0 s1
    go_wp2
    go_ret
    exact ⟨rfl, B0.out.trans (HC3.out.mono B0.out.size)⟩
  obtain ⟨d, rfl, hR⟩ := hr
  go_wp2_with fail
  refine (refRight_is d A n c ns true _ (HN.out.below HC2.out) (by simp; exact ⟨d, rfl, hR⟩)).mono ?_
  rintro e' w3 ⟨rfl, hb⟩
  have HC3 := Lib.hid (HC2.out.trans (hb.mono HC2.out.size)); have HR := Lib.hid hR
  clear hb s0 s1 hR
  obtain ⟨f2, hf2⟩ : ∃ x, firstB ns d = x := ⟨_, rfl⟩
  obtain ⟨d2, hd2⟩ : ∃ x, addD ns d = x := ⟨_, rfl⟩
  obtain ⟨ns2, hns2⟩ : ∃ x, addF ns d (leafN nb) = x := ⟨_, rfl⟩
  obtain ⟨N2, hN2⟩ : ∃ x, 2 ^ (d2 + 1) - 1 = x := ⟨_, rfl⟩
  have HX := Lib.hid (And.intro hf2 (And.intro hd2 hns2)); have HN2 := Lib.hid hN2
  have HWd : Hid (Below W0.heap.size W0 w3.drew) := Lib.hid HC3.out.drew
  have HWZ : Hid (w.heap.size ≤ w3.drew.heap.size) := Lib.hid (Nat.le_trans B0.out.size HWd.out.size)
  clear hf2 hd2 hns2 hN2
  by_cases h6 : d2 ≤ 6
  case neg =>
    obtain ⟨m1, m2⟩ := many_leaves HR.out (by rw [HX.out.2.1]; exact h6)
    have HM7 := Lib.hid m1
    clear m1 m2 h6
    go_wp2_with fail
    refine wp_cut (fun a (x : NdQ × Nat) => { tmps := ((((((((((a.tmps.setIfInBounds 36 (.agg #[.int .i64 d, .slice A n c])).setIfInBounds 37 (.int .u8 nb)).setIfInBounds 38 (.agg x.1.cs)).setIfInBounds 39 (.tuple #[.agg zt, .int .i64 0, .int .i64 2])).setIfInBounds 35 (.tuple #[.agg zt, .int .i64 0, .int .i64 2])).setIfInBounds 40 (.agg zt)).setIfInBounds 41 (.int .i64 0)).setIfInBounds 42 (.int .i64 2)).setIfInBounds 8 (.pointer (some ⟨x.2, 0, none⟩))).setIfInBounds 9 (.int .i64 0)).setIfInBounds 10 (.int .i64 2), defers := a.defers })
      (fun x W => Hid (Below w3.drew.heap.size w3.drew W)) ?_ ?_
    case refine_1 =>
      try simp only [Act.put]
      refine Wr.region_calm ?_
      refine wp_region_any (by kernel_rfl) ?_
      change wpAny _ _ _ _ _ _ _ (World.drew w3)
      have HSwdm : Hid (Below (World.drew w3).heap.size (World.drew w3) (World.drew w3)) := Lib.hid (Below.refl _ _)
      generalize World.drew w3 = wdm at *
      refine wpAny_of_held (S := fun W => Below wdm.heap.size wdm W) _ _ _ _ ?_
      refine wpAnyH_take (i := 0) (v := ?ve21) rfl (by kernel_rfl) (by kernel_rfl) (by kernel_rfl) (fun _ _ _ h => h) (Or.inl ⟨by rfl, ?ye21⟩) HSwdm.out ?re21
      case ye21 => (intro w' hSw; obtain ⟨s0, s1⟩ := (HG1.out.below (HWd.out.trans (hSw.mono HWd.out.size)) HL1.out).cs; clear hSw; go_simp; try with_reducible rfl)
      simp only [List.getElem_toArray, List.getElem_cons_succ, List.getElem_cons_zero, Act.put, List.setIfInBounds_toArray, List.set_cons_zero, List.set_cons_succ]
      refine wpAnyH_take (i := 1) (v := ?ve22) rfl (by kernel_rfl) (by kernel_rfl) (by kernel_rfl) (fun _ _ _ h => h) (Or.inl ⟨by rfl, ?ye22⟩) HSwdm.out ?re22
      case ye22 => (intro w' hSw; clear hSw; go_simp; try with_reducible rfl)
      simp only [List.getElem_toArray, List.getElem_cons_succ, List.getElem_cons_zero, Act.put, List.setIfInBounds_toArray, List.set_cons_zero, List.set_cons_succ]
      refine wpAnyH_ready (rs := [2, 8]) (by kernel_rfl) (by simp) ?_
      refine (AllReadyH.cons rfl (fun K' hK => ?_) (AllReadyH.cons rfl (fun K' hK => ?_) AllReadyH.nil))
      · skip
        simp only [List.getElem_toArray, List.getElem_cons_succ, List.getElem_cons_zero]
        go_simp
        refine (leaf_any nb hnb wdm).mono ?_
        rintro e' wl12 ⟨qwl12, rfl, hq, hqf, hb⟩
        have HQwl12 := Lib.hid hq; have HFwl12 := Lib.hid (hqf.and hq.far); have HSwl12 := Lib.hid (HSwdm.out.trans (hb.mono HSwdm.out.size)); have HVwl12 := Lib.hid hb.size
        clear hq hqf hb
        refine hK.out _ _ HSwl12.out (fun _ => ?_)
        clear hK
        try simp only [List.getElem_toArray, List.getElem_cons_succ, List.getElem_cons_zero, Act.put, List.setIfInBounds_toArray, List.set_cons_zero, List.set_cons_succ]
        refine wpAnyH_ready (rs := [3, 8]) (by kernel_rfl) (by simp) ?_
        refine (AllReadyH.cons rfl (fun K' hK => ?_) (AllReadyH.cons rfl (fun K' hK => ?_) AllReadyH.nil))
        · skip
          simp only [List.getElem_toArray, List.getElem_cons_succ, List.getElem_cons_zero]
          go_simp
          refine (add_many d A n c ns qwl12 (leafN nb) wl12 (HN.out.below (HWd.out.trans (HSwl12.out.mono HWd.out.size))) HQwl12.out (HT.out.below (HWd.out.trans (HSwl12.out.mono HWd.out.size))) HR.out (leafN_right nb) HM7.out).mono ?_
          rintro e' mn13 ⟨rfl, hb⟩
          have HQmn13 := Lib.hid (HQwl12.out.below hb); have HSmn13 := Lib.hid (HSwl12.out.trans (hb.mono HSwl12.out.size)); have HVmn13 := Lib.hid hb.size
          clear hb
          refine hK.out _ _ HSmn13.out (fun _ => ?_)
          clear hK
          try simp only [List.getElem_toArray, List.getElem_cons_succ, List.getElem_cons_zero, Act.put, List.setIfInBounds_toArray, List.set_cons_zero, List.set_cons_succ]
          refine wpAnyH_take (i := 4) (v := ?ve23) rfl (by kernel_rfl) (by kernel_rfl) (by kernel_rfl) (fun _ _ _ h => h) (Or.inl ⟨by rfl, ?ye23⟩) HSmn13.out ?re23
          case ye23 => (intro w' hSw; clear hSw; go_simp; try with_reducible rfl)
          simp only [List.getElem_toArray, List.getElem_cons_succ, List.getElem_cons_zero, Act.put, List.setIfInBounds_toArray, List.set_cons_zero, List.set_cons_succ]
          refine wpAnyH_take (i := 5) (v := ?ve24) rfl (by kernel_rfl) (by kernel_rfl) (by kernel_rfl) (fun _ _ _ h => h) (Or.inl ⟨by rfl, ?ye24⟩) HSmn13.out ?re24
          case ye24 => (intro w' hSw; clear hSw; go_simp; try with_reducible rfl)
          simp only [List.getElem_toArray, List.getElem_cons_succ, List.getElem_cons_zero, Act.put, List.setIfInBounds_toArray, List.set_cons_zero, List.set_cons_succ]
          refine wpAnyH_take (i := 6) (v := ?ve25) rfl (by kernel_rfl) (by kernel_rfl) (by kernel_rfl) (fun _ _ _ h => h) (Or.inl ⟨by rfl, ?ye25⟩) HSmn13.out ?re25
          case ye25 => (intro w' hSw; clear hSw; go_simp; try with_reducible rfl)
          simp only [List.getElem_toArray, List.getElem_cons_succ, List.getElem_cons_zero, Act.put, List.setIfInBounds_toArray, List.set_cons_zero, List.set_cons_succ]
          refine wpAnyH_take (i := 7) (v := ?ve26) rfl (by kernel_rfl) (by kernel_rfl) (by kernel_rfl) (fun _ _ _ h => h) (Or.inl ⟨by rfl, ?ye26⟩) HSmn13.out ?re26
          case ye26 => (intro w' hSw; clear hSw; go_simp; try with_reducible rfl)
          simp only [List.getElem_toArray, List.getElem_cons_succ, List.getElem_cons_zero, Act.put, List.setIfInBounds_toArray, List.set_cons_zero, List.set_cons_succ]
          refine wpAnyH_ready (rs := [8]) (by kernel_rfl) (by simp) ?_
          refine (AllReadyH.cons rfl (fun K' hK => ?_) AllReadyH.nil)
          simp only [List.getElem_toArray, List.getElem_cons_succ, List.getElem_cons_zero]
          go_simp
          have ba := below_one mn13 (.cells zt 24)
          have za := heap_alloc_last mn13 (.cells zt 24)
          obtain ⟨wa14, hwa⟩ : ∃ wa, mn13.alloc (.cells zt 24) = wa := ⟨_, rfl⟩
          rw [hwa] at ba za
          try rw [hwa]
          have HSwa14 := Lib.hid (HSmn13.out.trans (ba.mono HSmn13.out.size)); have HZwa14 := Lib.hid za
          have HVwa14 := Lib.hid (show mn13.heap.size < wa14.heap.size from (Array.getElem?_eq_some_iff.1 za).1)
          have HQwa14 := Lib.hid (HQmn13.out.below ba)
          clear hwa ba za
          refine hK.out _ _ HSwa14.out (fun _ => ?_)
          clear hK
          try simp only [List.getElem_toArray, List.getElem_cons_succ, List.getElem_cons_zero, Act.put, List.setIfInBounds_toArray, List.set_cons_zero, List.set_cons_succ]
          refine wpAnyH_ready (rs := [9]) (by kernel_rfl) (by simp) ?_
          refine (AllReadyH.cons rfl (fun K' hK => ?_) AllReadyH.nil)
          simp only [List.getElem_toArray, List.getElem_cons_succ, List.getElem_cons_zero]
          rw [if_pos (by rfl)]
          refine wp_store_row 24 (.tmp 8) (.tmp 40) rfl (mn13.heap.size) #[.int .i64 0, .slice none 0 0] rfl rfl 24 zt HZwa14.out (tr_sized _ _ _ _) rfl (tr_all _ _ _ _) ?_
          have HSwm15' := Lib.hid (below_setRow HSwa14.out (by have := HSmn13.out.size; omega) #[.int .i64 0, .slice none 0 0])
          obtain ⟨wm15, hk⟩ : ∃ W, wa14.setRow (mn13.heap.size) #[.int .i64 0, .slice none 0 0] = W := ⟨_, rfl⟩
          rw [hk] at HSwm15' ⊢
          have HSwm15 := HSwm15'
          clear hk
          refine hK.out _ _ HSwm15.out (fun _ => ?_)
          clear hK
          try simp only [List.getElem_toArray, List.getElem_cons_succ, List.getElem_cons_zero, Act.put, List.setIfInBounds_toArray, List.set_cons_zero, List.set_cons_succ]
          refine wpAnyH_take (i := 10) (v := ?ve27) rfl (by kernel_rfl) (by kernel_rfl) (by kernel_rfl) (fun _ _ _ h => h) (Or.inl ⟨by rfl, ?ye27⟩) HSwm15.out ?re27
          case ye27 => (intro w' hSw; clear hSw; go_simp; try with_reducible rfl)
          simp only [List.getElem_toArray, List.getElem_cons_succ, List.getElem_cons_zero, Act.put, List.setIfInBounds_toArray, List.set_cons_zero, List.set_cons_succ]
          refine wpAnyH_take (i := 11) (v := ?ve28) rfl (by kernel_rfl) (by kernel_rfl) (by kernel_rfl) (fun _ _ _ h => h) (Or.inl ⟨by rfl, ?ye28⟩) HSwm15.out ?re28
          case ye28 => (intro w' hSw; clear hSw; go_simp; try with_reducible rfl)
          simp only [List.getElem_toArray, List.getElem_cons_succ, List.getElem_cons_zero, Act.put, List.setIfInBounds_toArray, List.set_cons_zero, List.set_cons_succ]
          refine wpAnyH_done (by kernel_rfl) ?_ _
          exact ⟨(qwl12, mn13.heap.size), rfl, Lib.hid HSwm15.out⟩
        · skip
          simp only [List.getElem_toArray, List.getElem_cons_succ, List.getElem_cons_zero]
          go_simp
          have ba := below_one wl12 (.cells zt 24)
          have za := heap_alloc_last wl12 (.cells zt 24)
          obtain ⟨wa16, hwa⟩ : ∃ wa, wl12.alloc (.cells zt 24) = wa := ⟨_, rfl⟩
          rw [hwa] at ba za
          try rw [hwa]
          have HSwa16 := Lib.hid (HSwl12.out.trans (ba.mono HSwl12.out.size)); have HZwa16 := Lib.hid za
          have HVwa16 := Lib.hid (show wl12.heap.size < wa16.heap.size from (Array.getElem?_eq_some_iff.1 za).1)
          have HQwa16 := Lib.hid (HQwl12.out.below ba)
          clear hwa ba za
          refine hK.out _ _ HSwa16.out (fun _ => ?_)
          clear hK
          try simp only [List.getElem_toArray, List.getElem_cons_succ, List.getElem_cons_zero, Act.put, List.setIfInBounds_toArray, List.set_cons_zero, List.set_cons_succ]
          refine wpAnyH_ready (rs := [3]) (by kernel_rfl) (by simp) ?_
          refine (AllReadyH.cons rfl (fun K' hK => ?_) AllReadyH.nil)
          simp only [List.getElem_toArray, List.getElem_cons_succ, List.getElem_cons_zero]
          go_simp
          refine (add_many d A n c ns qwl12 (leafN nb) wa16 (HN.out.below (HWd.out.trans (HSwa16.out.mono HWd.out.size))) HQwa16.out (HT.out.below (HWd.out.trans (HSwa16.out.mono HWd.out.size))) HR.out (leafN_right nb) HM7.out).mono ?_
          rintro e' mn17 ⟨rfl, hb⟩
          have HQmn17 := Lib.hid (HQwa16.out.below hb); have HSmn17 := Lib.hid (HSwa16.out.trans (hb.mono HSwa16.out.size)); have HVmn17 := Lib.hid hb.size
          have HZmn17 := Lib.hid ((hb.block _ (Array.getElem?_eq_some_iff.1 HZwa16.out).1).trans HZwa16.out)
          clear hb
          refine hK.out _ _ HSmn17.out (fun _ => ?_)
          clear hK
          try simp only [List.getElem_toArray, List.getElem_cons_succ, List.getElem_cons_zero, Act.put, List.setIfInBounds_toArray, List.set_cons_zero, List.set_cons_succ]
          refine wpAnyH_take (i := 4) (v := ?ve29) rfl (by kernel_rfl) (by kernel_rfl) (by kernel_rfl) (fun _ _ _ h => h) (Or.inl ⟨by rfl, ?ye29⟩) HSmn17.out ?re29
          case ye29 => (intro w' hSw; clear hSw; go_simp; try with_reducible rfl)
          simp only [List.getElem_toArray, List.getElem_cons_succ, List.getElem_cons_zero, Act.put, List.setIfInBounds_toArray, List.set_cons_zero, List.set_cons_succ]
          refine wpAnyH_take (i := 5) (v := ?ve30) rfl (by kernel_rfl) (by kernel_rfl) (by kernel_rfl) (fun _ _ _ h => h) (Or.inl ⟨by rfl, ?ye30⟩) HSmn17.out ?re30
          case ye30 => (intro w' hSw; clear hSw; go_simp; try with_reducible rfl)
          simp only [List.getElem_toArray, List.getElem_cons_succ, List.getElem_cons_zero, Act.put, List.setIfInBounds_toArray, List.set_cons_zero, List.set_cons_succ]
          refine wpAnyH_take (i := 6) (v := ?ve31) rfl (by kernel_rfl) (by kernel_rfl) (by kernel_rfl) (fun _ _ _ h => h) (Or.inl ⟨by rfl, ?ye31⟩) HSmn17.out ?re31
          case ye31 => (intro w' hSw; clear hSw; go_simp; try with_reducible rfl)
          simp only [List.getElem_toArray, List.getElem_cons_succ, List.getElem_cons_zero, Act.put, List.setIfInBounds_toArray, List.set_cons_zero, List.set_cons_succ]
          refine wpAnyH_take (i := 7) (v := ?ve32) rfl (by kernel_rfl) (by kernel_rfl) (by kernel_rfl) (fun _ _ _ h => h) (Or.inl ⟨by rfl, ?ye32⟩) HSmn17.out ?re32
          case ye32 => (intro w' hSw; clear hSw; go_simp; try with_reducible rfl)
          simp only [List.getElem_toArray, List.getElem_cons_succ, List.getElem_cons_zero, Act.put, List.setIfInBounds_toArray, List.set_cons_zero, List.set_cons_succ]
          refine wpAnyH_ready (rs := [9]) (by kernel_rfl) (by simp) ?_
          refine (AllReadyH.cons rfl (fun K' hK => ?_) AllReadyH.nil)
          simp only [List.getElem_toArray, List.getElem_cons_succ, List.getElem_cons_zero]
          rw [if_pos (by rfl)]
          refine wp_store_row 24 (.tmp 8) (.tmp 40) rfl (wl12.heap.size) #[.int .i64 0, .slice none 0 0] rfl rfl 24 zt HZmn17.out (tr_sized _ _ _ _) rfl (tr_all _ _ _ _) ?_
          have HSwm18' := Lib.hid (below_setRow HSmn17.out (by have := HSwl12.out.size; omega) #[.int .i64 0, .slice none 0 0])
          obtain ⟨wm18, hk⟩ : ∃ W, mn17.setRow (wl12.heap.size) #[.int .i64 0, .slice none 0 0] = W := ⟨_, rfl⟩
          rw [hk] at HSwm18' ⊢
          have HSwm18 := HSwm18'
          clear hk
          refine hK.out _ _ HSwm18.out (fun _ => ?_)
          clear hK
          try simp only [List.getElem_toArray, List.getElem_cons_succ, List.getElem_cons_zero, Act.put, List.setIfInBounds_toArray, List.set_cons_zero, List.set_cons_succ]
          refine wpAnyH_take (i := 10) (v := ?ve33) rfl (by kernel_rfl) (by kernel_rfl) (by kernel_rfl) (fun _ _ _ h => h) (Or.inl ⟨by rfl, ?ye33⟩) HSwm18.out ?re33
          case ye33 => (intro w' hSw; clear hSw; go_simp; try with_reducible rfl)
          simp only [List.getElem_toArray, List.getElem_cons_succ, List.getElem_cons_zero, Act.put, List.setIfInBounds_toArray, List.set_cons_zero, List.set_cons_succ]
          refine wpAnyH_take (i := 11) (v := ?ve34) rfl (by kernel_rfl) (by kernel_rfl) (by kernel_rfl) (fun _ _ _ h => h) (Or.inl ⟨by rfl, ?ye34⟩) HSwm18.out ?re34
          case ye34 => (intro w' hSw; clear hSw; go_simp; try with_reducible rfl)
          simp only [List.getElem_toArray, List.getElem_cons_succ, List.getElem_cons_zero, Act.put, List.setIfInBounds_toArray, List.set_cons_zero, List.set_cons_succ]
          refine wpAnyH_done (by kernel_rfl) ?_ _
          exact ⟨(qwl12, wl12.heap.size), rfl, Lib.hid HSwm18.out⟩
      · skip
        simp only [List.getElem_toArray, List.getElem_cons_succ, List.getElem_cons_zero]
        go_simp
        have ba := below_one wdm (.cells zt 24)
        have za := heap_alloc_last wdm (.cells zt 24)
        obtain ⟨wa19, hwa⟩ : ∃ wa, wdm.alloc (.cells zt 24) = wa := ⟨_, rfl⟩
        rw [hwa] at ba za
        try rw [hwa]
        have HSwa19 := Lib.hid (HSwdm.out.trans (ba.mono HSwdm.out.size)); have HZwa19 := Lib.hid za
        have HVwa19 := Lib.hid (show wdm.heap.size < wa19.heap.size from (Array.getElem?_eq_some_iff.1 za).1)
        clear hwa ba za
        refine hK.out _ _ HSwa19.out (fun _ => ?_)
        clear hK
        try simp only [List.getElem_toArray, List.getElem_cons_succ, List.getElem_cons_zero, Act.put, List.setIfInBounds_toArray, List.set_cons_zero, List.set_cons_succ]
        refine wpAnyH_ready (rs := [2]) (by kernel_rfl) (by simp) ?_
        refine (AllReadyH.cons rfl (fun K' hK => ?_) AllReadyH.nil)
        simp only [List.getElem_toArray, List.getElem_cons_succ, List.getElem_cons_zero]
        go_simp
        refine (leaf_any nb hnb wa19).mono ?_
        rintro e' wl20 ⟨qwl20, rfl, hq, hqf, hb⟩
        have HQwl20 := Lib.hid hq; have HFwl20 := Lib.hid (hqf.and hq.far); have HSwl20 := Lib.hid (HSwa19.out.trans (hb.mono HSwa19.out.size)); have HVwl20 := Lib.hid hb.size
        have HZwl20 := Lib.hid ((hb.block _ (Array.getElem?_eq_some_iff.1 HZwa19.out).1).trans HZwa19.out)
        clear hq hqf hb
        refine hK.out _ _ HSwl20.out (fun _ => ?_)
        clear hK
        try simp only [List.getElem_toArray, List.getElem_cons_succ, List.getElem_cons_zero, Act.put, List.setIfInBounds_toArray, List.set_cons_zero, List.set_cons_succ]
        refine wpAnyH_ready (rs := [3]) (by kernel_rfl) (by simp) ?_
        refine (AllReadyH.cons rfl (fun K' hK => ?_) AllReadyH.nil)
        simp only [List.getElem_toArray, List.getElem_cons_succ, List.getElem_cons_zero]
        go_simp
        refine (add_many d A n c ns qwl20 (leafN nb) wl20 (HN.out.below (HWd.out.trans (HSwl20.out.mono HWd.out.size))) HQwl20.out (HT.out.below (HWd.out.trans (HSwl20.out.mono HWd.out.size))) HR.out (leafN_right nb) HM7.out).mono ?_
        rintro e' mn21 ⟨rfl, hb⟩
        have HQmn21 := Lib.hid (HQwl20.out.below hb); have HSmn21 := Lib.hid (HSwl20.out.trans (hb.mono HSwl20.out.size)); have HVmn21 := Lib.hid hb.size
        have HZmn21 := Lib.hid ((hb.block _ (Array.getElem?_eq_some_iff.1 HZwl20.out).1).trans HZwl20.out)
        clear hb
        refine hK.out _ _ HSmn21.out (fun _ => ?_)
        clear hK
        try simp only [List.getElem_toArray, List.getElem_cons_succ, List.getElem_cons_zero, Act.put, List.setIfInBounds_toArray, List.set_cons_zero, List.set_cons_succ]
        refine wpAnyH_take (i := 4) (v := ?ve35) rfl (by kernel_rfl) (by kernel_rfl) (by kernel_rfl) (fun _ _ _ h => h) (Or.inl ⟨by rfl, ?ye35⟩) HSmn21.out ?re35
        case ye35 => (intro w' hSw; clear hSw; go_simp; try with_reducible rfl)
        simp only [List.getElem_toArray, List.getElem_cons_succ, List.getElem_cons_zero, Act.put, List.setIfInBounds_toArray, List.set_cons_zero, List.set_cons_succ]
        refine wpAnyH_take (i := 5) (v := ?ve36) rfl (by kernel_rfl) (by kernel_rfl) (by kernel_rfl) (fun _ _ _ h => h) (Or.inl ⟨by rfl, ?ye36⟩) HSmn21.out ?re36
        case ye36 => (intro w' hSw; clear hSw; go_simp; try with_reducible rfl)
        simp only [List.getElem_toArray, List.getElem_cons_succ, List.getElem_cons_zero, Act.put, List.setIfInBounds_toArray, List.set_cons_zero, List.set_cons_succ]
        refine wpAnyH_take (i := 6) (v := ?ve37) rfl (by kernel_rfl) (by kernel_rfl) (by kernel_rfl) (fun _ _ _ h => h) (Or.inl ⟨by rfl, ?ye37⟩) HSmn21.out ?re37
        case ye37 => (intro w' hSw; clear hSw; go_simp; try with_reducible rfl)
        simp only [List.getElem_toArray, List.getElem_cons_succ, List.getElem_cons_zero, Act.put, List.setIfInBounds_toArray, List.set_cons_zero, List.set_cons_succ]
        refine wpAnyH_take (i := 7) (v := ?ve38) rfl (by kernel_rfl) (by kernel_rfl) (by kernel_rfl) (fun _ _ _ h => h) (Or.inl ⟨by rfl, ?ye38⟩) HSmn21.out ?re38
        case ye38 => (intro w' hSw; clear hSw; go_simp; try with_reducible rfl)
        simp only [List.getElem_toArray, List.getElem_cons_succ, List.getElem_cons_zero, Act.put, List.setIfInBounds_toArray, List.set_cons_zero, List.set_cons_succ]
        refine wpAnyH_ready (rs := [9]) (by kernel_rfl) (by simp) ?_
        refine (AllReadyH.cons rfl (fun K' hK => ?_) AllReadyH.nil)
        simp only [List.getElem_toArray, List.getElem_cons_succ, List.getElem_cons_zero]
        rw [if_pos (by rfl)]
        refine wp_store_row 24 (.tmp 8) (.tmp 40) rfl (wdm.heap.size) #[.int .i64 0, .slice none 0 0] rfl rfl 24 zt HZmn21.out (tr_sized _ _ _ _) rfl (tr_all _ _ _ _) ?_
        have HSwm22' := Lib.hid (below_setRow HSmn21.out (by have := HSwdm.out.size; omega) #[.int .i64 0, .slice none 0 0])
        obtain ⟨wm22, hk⟩ : ∃ W, mn21.setRow (wdm.heap.size) #[.int .i64 0, .slice none 0 0] = W := ⟨_, rfl⟩
        rw [hk] at HSwm22' ⊢
        have HSwm22 := HSwm22'
        clear hk
        refine hK.out _ _ HSwm22.out (fun _ => ?_)
        clear hK
        try simp only [List.getElem_toArray, List.getElem_cons_succ, List.getElem_cons_zero, Act.put, List.setIfInBounds_toArray, List.set_cons_zero, List.set_cons_succ]
        refine wpAnyH_take (i := 10) (v := ?ve39) rfl (by kernel_rfl) (by kernel_rfl) (by kernel_rfl) (fun _ _ _ h => h) (Or.inl ⟨by rfl, ?ye39⟩) HSwm22.out ?re39
        case ye39 => (intro w' hSw; clear hSw; go_simp; try with_reducible rfl)
        simp only [List.getElem_toArray, List.getElem_cons_succ, List.getElem_cons_zero, Act.put, List.setIfInBounds_toArray, List.set_cons_zero, List.set_cons_succ]
        refine wpAnyH_take (i := 11) (v := ?ve40) rfl (by kernel_rfl) (by kernel_rfl) (by kernel_rfl) (fun _ _ _ h => h) (Or.inl ⟨by rfl, ?ye40⟩) HSwm22.out ?re40
        case ye40 => (intro w' hSw; clear hSw; go_simp; try with_reducible rfl)
        simp only [List.getElem_toArray, List.getElem_cons_succ, List.getElem_cons_zero, Act.put, List.setIfInBounds_toArray, List.set_cons_zero, List.set_cons_succ]
        refine wpAnyH_done (by kernel_rfl) ?_ _
        exact ⟨(qwl20, wdm.heap.size), rfl, Lib.hid HSwm22.out⟩
    case refine_2 =>
      rintro ⟨q5, b5⟩ w6 H5
      simp only [List.setIfInBounds_toArray, List.set_cons_succ, List.set_cons_zero]
      have HC6 : Hid (Below W0.heap.size W0 w6) := Lib.hid (HWd.out.trans (H5.out.mono HWd.out.size))
      go_wp2
      go_ret
      exact ⟨rfl, B0.out.trans (HC6.out.mono B0.out.size)⟩
  have CA : Hid (∀ (B : Nat) (q : NdQ) (W : World), Below w3.drew.heap.size w3.drew W → w.heap.size ≤ B → NdIs Any W q (leafN nb) → NdFar (fun x => x ≠ B) q → Calls Tryz.prog 9 #[.agg #[.int .i64 d, .slice A n c], .agg q.cs] W fun e w' => ∃ g2 bs2, e = .returned (.tuple #[.agg #[.int .i64 d2, .slice (some ⟨g2, 0, none⟩) N2 N2], .int .i64 f2, .int .i64 0]) ∧ W.heap.size ≤ g2 ∧ OwnN (fun x => x ≠ g2 ∧ (B < W.heap.size → x ≠ B) ∧ x < w'.heap.size) w' bs2 g2 N2 N2 ns2 ∧ Below W.heap.size W w') := Lib.hid fun B q W hb hB hq hf => by
    have hW := HWd.out.trans (hb.mono HWd.out.size)
    refine law_add d A n c ns nb d2 f2 N2 ns2 HX.out HR.out h6 HN2.out B q W (HN.out.below hW) (fun ad e j q hj hat => ?_) hq hf (HT.out.below hW)
    exact (HN0.out.farB (B0.out.trans (hW.mono B0.out.size)) ad e j q hj hat).mono (fun x hx => by omega)
  have H6 := Lib.hid h6
  clear h6
  go_wp2_with fail
  refine wp_cut (fun a (x : NdQ × Nat × Nat) => { tmps := ((((((((((a.tmps.setIfInBounds 36 (.agg #[.int .i64 d, .slice A n c])).setIfInBounds 37 (.int .u8 nb)).setIfInBounds 38 (.agg x.1.cs)).setIfInBounds 39 (.tuple #[.agg #[.int .i64 d2, .slice (some ⟨x.2.1, 0, none⟩) N2 N2], .int .i64 f2, .int .i64 0])).setIfInBounds 35 (.tuple #[.agg #[.int .i64 d2, .slice (some ⟨x.2.1, 0, none⟩) N2 N2], .int .i64 f2, .int .i64 0])).setIfInBounds 40 (.agg #[.int .i64 d2, .slice (some ⟨x.2.1, 0, none⟩) N2 N2])).setIfInBounds 41 (.int .i64 f2)).setIfInBounds 42 (.int .i64 0)).setIfInBounds 8 (.pointer (some ⟨x.2.2, 0, none⟩))).setIfInBounds 9 (.int .i64 f2)).setIfInBounds 10 (.int .i64 0), defers := a.defers })
    (fun x W => Hid (TrB d2 (some ⟨x.2.1, 0, none⟩) N2 N2 W x.2.2 ∧ Nodes Any Any W (some ⟨x.2.1, 0, none⟩) N2 N2 ns2 ∧ Below w3.drew.heap.size w3.drew W)) ?_ ?_
  case refine_1 =>
    try simp only [Act.put]
    refine Wr.region_calm ?_
    refine wp_region_any (by kernel_rfl) ?_
    change wpAny _ _ _ _ _ _ _ (World.drew w3)
    have HSwd4 : Hid (Below (World.drew w3).heap.size (World.drew w3) (World.drew w3)) := Lib.hid (Below.refl _ _)
    generalize World.drew w3 = wd4 at *
    refine wpAny_of_held (S := fun W => Below wd4.heap.size wd4 W) _ _ _ _ ?_
    refine wpAnyH_take (i := 0) (v := ?ve1) rfl (by kernel_rfl) (by kernel_rfl) (by kernel_rfl) (fun _ _ _ h => h) (Or.inl ⟨by rfl, ?ye1⟩) HSwd4.out ?re1
    case ye1 => (intro w' hSw; obtain ⟨s0, s1⟩ := (HG1.out.below (HWd.out.trans (hSw.mono HWd.out.size)) HL1.out).cs; clear hSw; go_simp; try with_reducible rfl)
    simp only [List.getElem_toArray, List.getElem_cons_succ, List.getElem_cons_zero, Act.put, List.setIfInBounds_toArray, List.set_cons_zero, List.set_cons_succ]
    refine wpAnyH_take (i := 1) (v := ?ve2) rfl (by kernel_rfl) (by kernel_rfl) (by kernel_rfl) (fun _ _ _ h => h) (Or.inl ⟨by rfl, ?ye2⟩) HSwd4.out ?re2
    case ye2 => (intro w' hSw; clear hSw; go_simp; try with_reducible rfl)
    simp only [List.getElem_toArray, List.getElem_cons_succ, List.getElem_cons_zero, Act.put, List.setIfInBounds_toArray, List.set_cons_zero, List.set_cons_succ]
    refine wpAnyH_ready (rs := [2, 8]) (by kernel_rfl) (by simp) ?_
    refine (AllReadyH.cons rfl (fun K' hK => ?_) (AllReadyH.cons rfl (fun K' hK => ?_) AllReadyH.nil))
    · skip
      simp only [List.getElem_toArray, List.getElem_cons_succ, List.getElem_cons_zero]
      go_simp
      refine (leaf_any nb hnb wd4).mono ?_
      rintro e' wl1 ⟨qwl1, rfl, hq, hqf, hb⟩
      have HQwl1 := Lib.hid hq; have HFwl1 := Lib.hid (hqf.and hq.far); have HSwl1 := Lib.hid (HSwd4.out.trans (hb.mono HSwd4.out.size)); have HVwl1 := Lib.hid hb.size
      clear hq hqf hb
      refine hK.out _ _ HSwl1.out (fun _ => ?_)
      clear hK
      try simp only [List.getElem_toArray, List.getElem_cons_succ, List.getElem_cons_zero, Act.put, List.setIfInBounds_toArray, List.set_cons_zero, List.set_cons_succ]
      refine wpAnyH_ready (rs := [3, 8]) (by kernel_rfl) (by simp) ?_
      refine (AllReadyH.cons rfl (fun K' hK => ?_) (AllReadyH.cons rfl (fun K' hK => ?_) AllReadyH.nil))
      · skip
        simp only [List.getElem_toArray, List.getElem_cons_succ, List.getElem_cons_zero]
        go_simp
        have hfq : NdFar (fun x => x ≠ wl1.heap.size) qwl1 := (HFwl1.out).mono (fun x hx => by (have h1 := hx.1; have h2 := hx.2; have := HVwl1.out; omega))
        refine (CA.out wl1.heap.size qwl1 wl1 HSwl1.out (by have := HWZ.out; have := HSwl1.out.size;  omega) HQwl1.out hfq).mono ?_
        rintro e' ad2 ⟨g, bs, rfl, hg2, ho, hb⟩
        have HOad2 := Lib.hid ho; have HGad2 := Lib.hid hg2; have HSad2 := Lib.hid (HSwl1.out.trans (hb.mono HSwl1.out.size)); have HVad2 := Lib.hid hb.size
        clear hfq hg2 ho hb
        refine hK.out _ _ HSad2.out (fun _ => ?_)
        clear hK
        try simp only [List.getElem_toArray, List.getElem_cons_succ, List.getElem_cons_zero, Act.put, List.setIfInBounds_toArray, List.set_cons_zero, List.set_cons_succ]
        refine wpAnyH_take (i := 4) (v := ?ve3) rfl (by kernel_rfl) (by kernel_rfl) (by kernel_rfl) (fun _ _ _ h => h) (Or.inl ⟨by rfl, ?ye3⟩) HSad2.out ?re3
        case ye3 => (intro w' hSw; clear hSw; go_simp; try with_reducible rfl)
        simp only [List.getElem_toArray, List.getElem_cons_succ, List.getElem_cons_zero, Act.put, List.setIfInBounds_toArray, List.set_cons_zero, List.set_cons_succ]
        refine wpAnyH_take (i := 5) (v := ?ve4) rfl (by kernel_rfl) (by kernel_rfl) (by kernel_rfl) (fun _ _ _ h => h) (Or.inl ⟨by rfl, ?ye4⟩) HSad2.out ?re4
        case ye4 => (intro w' hSw; clear hSw; go_simp; try with_reducible rfl)
        simp only [List.getElem_toArray, List.getElem_cons_succ, List.getElem_cons_zero, Act.put, List.setIfInBounds_toArray, List.set_cons_zero, List.set_cons_succ]
        refine wpAnyH_take (i := 6) (v := ?ve5) rfl (by kernel_rfl) (by kernel_rfl) (by kernel_rfl) (fun _ _ _ h => h) (Or.inl ⟨by rfl, ?ye5⟩) HSad2.out ?re5
        case ye5 => (intro w' hSw; clear hSw; go_simp; try with_reducible rfl)
        simp only [List.getElem_toArray, List.getElem_cons_succ, List.getElem_cons_zero, Act.put, List.setIfInBounds_toArray, List.set_cons_zero, List.set_cons_succ]
        refine wpAnyH_take (i := 7) (v := ?ve6) rfl (by kernel_rfl) (by kernel_rfl) (by kernel_rfl) (fun _ _ _ h => h) (Or.inl ⟨by rfl, ?ye6⟩) HSad2.out ?re6
        case ye6 => (intro w' hSw; clear hSw; go_simp; try with_reducible rfl)
        simp only [List.getElem_toArray, List.getElem_cons_succ, List.getElem_cons_zero, Act.put, List.setIfInBounds_toArray, List.set_cons_zero, List.set_cons_succ]
        refine wpAnyH_ready (rs := [8]) (by kernel_rfl) (by simp) ?_
        refine (AllReadyH.cons rfl (fun K' hK => ?_) AllReadyH.nil)
        simp only [List.getElem_toArray, List.getElem_cons_succ, List.getElem_cons_zero]
        go_simp
        have ba := below_one ad2 (.cells zt 24)
        have za := heap_alloc_last ad2 (.cells zt 24)
        obtain ⟨wa3, hwa⟩ : ∃ wa, ad2.alloc (.cells zt 24) = wa := ⟨_, rfl⟩
        rw [hwa] at ba za
        try rw [hwa]
        have HSwa3 := Lib.hid (HSad2.out.trans (ba.mono HSad2.out.size)); have HZwa3 := Lib.hid za
        have HVwa3 := Lib.hid (show ad2.heap.size < wa3.heap.size from (Array.getElem?_eq_some_iff.1 za).1)
        have HOwa3 := Lib.hid (HOad2.out.below ba)
        clear hwa ba za
        refine hK.out _ _ HSwa3.out (fun _ => ?_)
        clear hK
        try simp only [List.getElem_toArray, List.getElem_cons_succ, List.getElem_cons_zero, Act.put, List.setIfInBounds_toArray, List.set_cons_zero, List.set_cons_succ]
        refine wpAnyH_ready (rs := [9]) (by kernel_rfl) (by simp) ?_
        refine (AllReadyH.cons rfl (fun K' hK => ?_) AllReadyH.nil)
        simp only [List.getElem_toArray, List.getElem_cons_succ, List.getElem_cons_zero]
        rw [if_pos (by rfl)]
        refine wp_store_row 24 (.tmp 8) (.tmp 40) rfl (ad2.heap.size) #[.int .i64 (d2 : Nat), .slice (some ⟨g, 0, none⟩) N2 N2] rfl rfl 24 zt HZwa3.out (tr_sized _ _ _ _) rfl (tr_all _ _ _ _) ?_
        have HTRws4 := Lib.hid (setRow_heap wa3 (ad2.heap.size) _ #[.int .i64 (d2 : Nat), .slice (some ⟨g, 0, none⟩) N2 N2] 24 _ HZwa3.out)
        have hgb : g ≠ ad2.heap.size := by (have h1 := HGad2.out; have h2 := HOad2.out.lt.2; have := HVwl1.out; have := HVad2.out; have := HVwa3.out; omega)
        have HNDws4 := Lib.hid ((HOwa3.out.kept (w' := wa3.setRow (ad2.heap.size) #[.int .i64 (d2 : Nat), .slice (some ⟨g, 0, none⟩) N2 N2]) (by simp [World.setRow]) (setRow_other wa3 _ _ _ hgb) (fun b hb _ => setRow_other wa3 _ b _ (by have h1 := hb.2.2; omega))).nodes.any)
        have HSws4' := Lib.hid (below_setRow HSwa3.out (by have := HSad2.out.size; omega) #[.int .i64 (d2 : Nat), .slice (some ⟨g, 0, none⟩) N2 N2])
        obtain ⟨ws4, hk⟩ : ∃ W, wa3.setRow (ad2.heap.size) #[.int .i64 (d2 : Nat), .slice (some ⟨g, 0, none⟩) N2 N2] = W := ⟨_, rfl⟩
        rw [hk] at HTRws4 HNDws4 HSws4' ⊢
        have HSws4 := HSws4'
        clear hk hgb
        refine hK.out _ _ HSws4.out (fun _ => ?_)
        clear hK
        try simp only [List.getElem_toArray, List.getElem_cons_succ, List.getElem_cons_zero, Act.put, List.setIfInBounds_toArray, List.set_cons_zero, List.set_cons_succ]
        refine wpAnyH_take (i := 10) (v := ?ve7) rfl (by kernel_rfl) (by kernel_rfl) (by kernel_rfl) (fun _ _ _ h => h) (Or.inl ⟨by rfl, ?ye7⟩) HSws4.out ?re7
        case ye7 => (intro w' hSw; clear hSw; go_simp; try with_reducible rfl)
        simp only [List.getElem_toArray, List.getElem_cons_succ, List.getElem_cons_zero, Act.put, List.setIfInBounds_toArray, List.set_cons_zero, List.set_cons_succ]
        refine wpAnyH_take (i := 11) (v := ?ve8) rfl (by kernel_rfl) (by kernel_rfl) (by kernel_rfl) (fun _ _ _ h => h) (Or.inl ⟨by rfl, ?ye8⟩) HSws4.out ?re8
        case ye8 => (intro w' hSw; clear hSw; go_simp; try with_reducible rfl)
        simp only [List.getElem_toArray, List.getElem_cons_succ, List.getElem_cons_zero, Act.put, List.setIfInBounds_toArray, List.set_cons_zero, List.set_cons_succ]
        refine wpAnyH_done (by kernel_rfl) ?_ _
        exact ⟨(qwl1, g, ad2.heap.size), rfl, Lib.hid ⟨HTRws4.out, HNDws4.out, HSws4.out⟩⟩
      · skip
        simp only [List.getElem_toArray, List.getElem_cons_succ, List.getElem_cons_zero]
        go_simp
        have ba := below_one wl1 (.cells zt 24)
        have za := heap_alloc_last wl1 (.cells zt 24)
        obtain ⟨wa5, hwa⟩ : ∃ wa, wl1.alloc (.cells zt 24) = wa := ⟨_, rfl⟩
        rw [hwa] at ba za
        try rw [hwa]
        have HSwa5 := Lib.hid (HSwl1.out.trans (ba.mono HSwl1.out.size)); have HZwa5 := Lib.hid za
        have HVwa5 := Lib.hid (show wl1.heap.size < wa5.heap.size from (Array.getElem?_eq_some_iff.1 za).1)
        have HQwa5 := Lib.hid (HQwl1.out.below ba)
        clear hwa ba za
        refine hK.out _ _ HSwa5.out (fun _ => ?_)
        clear hK
        try simp only [List.getElem_toArray, List.getElem_cons_succ, List.getElem_cons_zero, Act.put, List.setIfInBounds_toArray, List.set_cons_zero, List.set_cons_succ]
        refine wpAnyH_ready (rs := [3]) (by kernel_rfl) (by simp) ?_
        refine (AllReadyH.cons rfl (fun K' hK => ?_) AllReadyH.nil)
        simp only [List.getElem_toArray, List.getElem_cons_succ, List.getElem_cons_zero]
        go_simp
        have hfq : NdFar (fun x => x ≠ wl1.heap.size) qwl1 := (HFwl1.out).mono (fun x hx => by (have h1 := hx.1; have h2 := hx.2; have := HVwl1.out; have := HVwa5.out; omega))
        refine (CA.out wl1.heap.size qwl1 wa5 HSwa5.out (by have := HWZ.out; have := HSwa5.out.size; have := HSwl1.out.size; omega) HQwa5.out hfq).mono ?_
        rintro e' ad6 ⟨g, bs, rfl, hg2, ho, hb⟩
        have HOad6 := Lib.hid ho; have HGad6 := Lib.hid hg2; have HSad6 := Lib.hid (HSwa5.out.trans (hb.mono HSwa5.out.size)); have HVad6 := Lib.hid hb.size
        have HZad6 := Lib.hid ((hb.block _ (Array.getElem?_eq_some_iff.1 HZwa5.out).1).trans HZwa5.out)
        clear hfq hg2 ho hb
        refine hK.out _ _ HSad6.out (fun _ => ?_)
        clear hK
        try simp only [List.getElem_toArray, List.getElem_cons_succ, List.getElem_cons_zero, Act.put, List.setIfInBounds_toArray, List.set_cons_zero, List.set_cons_succ]
        refine wpAnyH_take (i := 4) (v := ?ve9) rfl (by kernel_rfl) (by kernel_rfl) (by kernel_rfl) (fun _ _ _ h => h) (Or.inl ⟨by rfl, ?ye9⟩) HSad6.out ?re9
        case ye9 => (intro w' hSw; clear hSw; go_simp; try with_reducible rfl)
        simp only [List.getElem_toArray, List.getElem_cons_succ, List.getElem_cons_zero, Act.put, List.setIfInBounds_toArray, List.set_cons_zero, List.set_cons_succ]
        refine wpAnyH_take (i := 5) (v := ?ve10) rfl (by kernel_rfl) (by kernel_rfl) (by kernel_rfl) (fun _ _ _ h => h) (Or.inl ⟨by rfl, ?ye10⟩) HSad6.out ?re10
        case ye10 => (intro w' hSw; clear hSw; go_simp; try with_reducible rfl)
        simp only [List.getElem_toArray, List.getElem_cons_succ, List.getElem_cons_zero, Act.put, List.setIfInBounds_toArray, List.set_cons_zero, List.set_cons_succ]
        refine wpAnyH_take (i := 6) (v := ?ve11) rfl (by kernel_rfl) (by kernel_rfl) (by kernel_rfl) (fun _ _ _ h => h) (Or.inl ⟨by rfl, ?ye11⟩) HSad6.out ?re11
        case ye11 => (intro w' hSw; clear hSw; go_simp; try with_reducible rfl)
        simp only [List.getElem_toArray, List.getElem_cons_succ, List.getElem_cons_zero, Act.put, List.setIfInBounds_toArray, List.set_cons_zero, List.set_cons_succ]
        refine wpAnyH_take (i := 7) (v := ?ve12) rfl (by kernel_rfl) (by kernel_rfl) (by kernel_rfl) (fun _ _ _ h => h) (Or.inl ⟨by rfl, ?ye12⟩) HSad6.out ?re12
        case ye12 => (intro w' hSw; clear hSw; go_simp; try with_reducible rfl)
        simp only [List.getElem_toArray, List.getElem_cons_succ, List.getElem_cons_zero, Act.put, List.setIfInBounds_toArray, List.set_cons_zero, List.set_cons_succ]
        refine wpAnyH_ready (rs := [9]) (by kernel_rfl) (by simp) ?_
        refine (AllReadyH.cons rfl (fun K' hK => ?_) AllReadyH.nil)
        simp only [List.getElem_toArray, List.getElem_cons_succ, List.getElem_cons_zero]
        rw [if_pos (by rfl)]
        refine wp_store_row 24 (.tmp 8) (.tmp 40) rfl (wl1.heap.size) #[.int .i64 (d2 : Nat), .slice (some ⟨g, 0, none⟩) N2 N2] rfl rfl 24 zt HZad6.out (tr_sized _ _ _ _) rfl (tr_all _ _ _ _) ?_
        have HTRws7 := Lib.hid (setRow_heap ad6 (wl1.heap.size) _ #[.int .i64 (d2 : Nat), .slice (some ⟨g, 0, none⟩) N2 N2] 24 _ HZad6.out)
        have hgb : g ≠ wl1.heap.size := by (have h1 := HGad6.out;  have := HVwl1.out; have := HVwa5.out; have := HVad6.out; omega)
        have HNDws7 := Lib.hid ((HOad6.out.kept (w' := ad6.setRow (wl1.heap.size) #[.int .i64 (d2 : Nat), .slice (some ⟨g, 0, none⟩) N2 N2]) (by simp [World.setRow]) (setRow_other ad6 _ _ _ hgb) (fun b hb _ => setRow_other ad6 _ b _ (by exact hb.2.1 (by have := HVwl1.out; have := HVwa5.out; have := HVad6.out; omega)))).nodes.any)
        have HSws7' := Lib.hid (below_setRow HSad6.out (by have := HSwl1.out.size; omega) #[.int .i64 (d2 : Nat), .slice (some ⟨g, 0, none⟩) N2 N2])
        obtain ⟨ws7, hk⟩ : ∃ W, ad6.setRow (wl1.heap.size) #[.int .i64 (d2 : Nat), .slice (some ⟨g, 0, none⟩) N2 N2] = W := ⟨_, rfl⟩
        rw [hk] at HTRws7 HNDws7 HSws7' ⊢
        have HSws7 := HSws7'
        clear hk hgb
        refine hK.out _ _ HSws7.out (fun _ => ?_)
        clear hK
        try simp only [List.getElem_toArray, List.getElem_cons_succ, List.getElem_cons_zero, Act.put, List.setIfInBounds_toArray, List.set_cons_zero, List.set_cons_succ]
        refine wpAnyH_take (i := 10) (v := ?ve13) rfl (by kernel_rfl) (by kernel_rfl) (by kernel_rfl) (fun _ _ _ h => h) (Or.inl ⟨by rfl, ?ye13⟩) HSws7.out ?re13
        case ye13 => (intro w' hSw; clear hSw; go_simp; try with_reducible rfl)
        simp only [List.getElem_toArray, List.getElem_cons_succ, List.getElem_cons_zero, Act.put, List.setIfInBounds_toArray, List.set_cons_zero, List.set_cons_succ]
        refine wpAnyH_take (i := 11) (v := ?ve14) rfl (by kernel_rfl) (by kernel_rfl) (by kernel_rfl) (fun _ _ _ h => h) (Or.inl ⟨by rfl, ?ye14⟩) HSws7.out ?re14
        case ye14 => (intro w' hSw; clear hSw; go_simp; try with_reducible rfl)
        simp only [List.getElem_toArray, List.getElem_cons_succ, List.getElem_cons_zero, Act.put, List.setIfInBounds_toArray, List.set_cons_zero, List.set_cons_succ]
        refine wpAnyH_done (by kernel_rfl) ?_ _
        exact ⟨(qwl1, g, wl1.heap.size), rfl, Lib.hid ⟨HTRws7.out, HNDws7.out, HSws7.out⟩⟩
    · skip
      simp only [List.getElem_toArray, List.getElem_cons_succ, List.getElem_cons_zero]
      go_simp
      have ba := below_one wd4 (.cells zt 24)
      have za := heap_alloc_last wd4 (.cells zt 24)
      obtain ⟨wa8, hwa⟩ : ∃ wa, wd4.alloc (.cells zt 24) = wa := ⟨_, rfl⟩
      rw [hwa] at ba za
      try rw [hwa]
      have HSwa8 := Lib.hid (HSwd4.out.trans (ba.mono HSwd4.out.size)); have HZwa8 := Lib.hid za
      have HVwa8 := Lib.hid (show wd4.heap.size < wa8.heap.size from (Array.getElem?_eq_some_iff.1 za).1)
      clear hwa ba za
      refine hK.out _ _ HSwa8.out (fun _ => ?_)
      clear hK
      try simp only [List.getElem_toArray, List.getElem_cons_succ, List.getElem_cons_zero, Act.put, List.setIfInBounds_toArray, List.set_cons_zero, List.set_cons_succ]
      refine wpAnyH_ready (rs := [2]) (by kernel_rfl) (by simp) ?_
      refine (AllReadyH.cons rfl (fun K' hK => ?_) AllReadyH.nil)
      simp only [List.getElem_toArray, List.getElem_cons_succ, List.getElem_cons_zero]
      go_simp
      refine (leaf_any nb hnb wa8).mono ?_
      rintro e' wl9 ⟨qwl9, rfl, hq, hqf, hb⟩
      have HQwl9 := Lib.hid hq; have HFwl9 := Lib.hid (hqf.and hq.far); have HSwl9 := Lib.hid (HSwa8.out.trans (hb.mono HSwa8.out.size)); have HVwl9 := Lib.hid hb.size
      have HZwl9 := Lib.hid ((hb.block _ (Array.getElem?_eq_some_iff.1 HZwa8.out).1).trans HZwa8.out)
      clear hq hqf hb
      refine hK.out _ _ HSwl9.out (fun _ => ?_)
      clear hK
      try simp only [List.getElem_toArray, List.getElem_cons_succ, List.getElem_cons_zero, Act.put, List.setIfInBounds_toArray, List.set_cons_zero, List.set_cons_succ]
      refine wpAnyH_ready (rs := [3]) (by kernel_rfl) (by simp) ?_
      refine (AllReadyH.cons rfl (fun K' hK => ?_) AllReadyH.nil)
      simp only [List.getElem_toArray, List.getElem_cons_succ, List.getElem_cons_zero]
      go_simp
      have hfq : NdFar (fun x => x ≠ wd4.heap.size) qwl9 := (HFwl9.out).mono (fun x hx => by (have h1 := hx.1; have h2 := hx.2; have := HVwa8.out; have := HVwl9.out; omega))
      refine (CA.out wd4.heap.size qwl9 wl9 HSwl9.out (by have := HWZ.out; have := HSwl9.out.size; have := HSwd4.out.size; omega) HQwl9.out hfq).mono ?_
      rintro e' ad10 ⟨g, bs, rfl, hg2, ho, hb⟩
      have HOad10 := Lib.hid ho; have HGad10 := Lib.hid hg2; have HSad10 := Lib.hid (HSwl9.out.trans (hb.mono HSwl9.out.size)); have HVad10 := Lib.hid hb.size
      have HZad10 := Lib.hid ((hb.block _ (Array.getElem?_eq_some_iff.1 HZwl9.out).1).trans HZwl9.out)
      clear hfq hg2 ho hb
      refine hK.out _ _ HSad10.out (fun _ => ?_)
      clear hK
      try simp only [List.getElem_toArray, List.getElem_cons_succ, List.getElem_cons_zero, Act.put, List.setIfInBounds_toArray, List.set_cons_zero, List.set_cons_succ]
      refine wpAnyH_take (i := 4) (v := ?ve15) rfl (by kernel_rfl) (by kernel_rfl) (by kernel_rfl) (fun _ _ _ h => h) (Or.inl ⟨by rfl, ?ye15⟩) HSad10.out ?re15
      case ye15 => (intro w' hSw; clear hSw; go_simp; try with_reducible rfl)
      simp only [List.getElem_toArray, List.getElem_cons_succ, List.getElem_cons_zero, Act.put, List.setIfInBounds_toArray, List.set_cons_zero, List.set_cons_succ]
      refine wpAnyH_take (i := 5) (v := ?ve16) rfl (by kernel_rfl) (by kernel_rfl) (by kernel_rfl) (fun _ _ _ h => h) (Or.inl ⟨by rfl, ?ye16⟩) HSad10.out ?re16
      case ye16 => (intro w' hSw; clear hSw; go_simp; try with_reducible rfl)
      simp only [List.getElem_toArray, List.getElem_cons_succ, List.getElem_cons_zero, Act.put, List.setIfInBounds_toArray, List.set_cons_zero, List.set_cons_succ]
      refine wpAnyH_take (i := 6) (v := ?ve17) rfl (by kernel_rfl) (by kernel_rfl) (by kernel_rfl) (fun _ _ _ h => h) (Or.inl ⟨by rfl, ?ye17⟩) HSad10.out ?re17
      case ye17 => (intro w' hSw; clear hSw; go_simp; try with_reducible rfl)
      simp only [List.getElem_toArray, List.getElem_cons_succ, List.getElem_cons_zero, Act.put, List.setIfInBounds_toArray, List.set_cons_zero, List.set_cons_succ]
      refine wpAnyH_take (i := 7) (v := ?ve18) rfl (by kernel_rfl) (by kernel_rfl) (by kernel_rfl) (fun _ _ _ h => h) (Or.inl ⟨by rfl, ?ye18⟩) HSad10.out ?re18
      case ye18 => (intro w' hSw; clear hSw; go_simp; try with_reducible rfl)
      simp only [List.getElem_toArray, List.getElem_cons_succ, List.getElem_cons_zero, Act.put, List.setIfInBounds_toArray, List.set_cons_zero, List.set_cons_succ]
      refine wpAnyH_ready (rs := [9]) (by kernel_rfl) (by simp) ?_
      refine (AllReadyH.cons rfl (fun K' hK => ?_) AllReadyH.nil)
      simp only [List.getElem_toArray, List.getElem_cons_succ, List.getElem_cons_zero]
      rw [if_pos (by rfl)]
      refine wp_store_row 24 (.tmp 8) (.tmp 40) rfl (wd4.heap.size) #[.int .i64 (d2 : Nat), .slice (some ⟨g, 0, none⟩) N2 N2] rfl rfl 24 zt HZad10.out (tr_sized _ _ _ _) rfl (tr_all _ _ _ _) ?_
      have HTRws11 := Lib.hid (setRow_heap ad10 (wd4.heap.size) _ #[.int .i64 (d2 : Nat), .slice (some ⟨g, 0, none⟩) N2 N2] 24 _ HZad10.out)
      have hgb : g ≠ wd4.heap.size := by (have h1 := HGad10.out;  have := HVwa8.out; have := HVwl9.out; have := HVad10.out; omega)
      have HNDws11 := Lib.hid ((HOad10.out.kept (w' := ad10.setRow (wd4.heap.size) #[.int .i64 (d2 : Nat), .slice (some ⟨g, 0, none⟩) N2 N2]) (by simp [World.setRow]) (setRow_other ad10 _ _ _ hgb) (fun b hb _ => setRow_other ad10 _ b _ (by exact hb.2.1 (by have := HVwa8.out; have := HVwl9.out; have := HVad10.out; omega)))).nodes.any)
      have HSws11' := Lib.hid (below_setRow HSad10.out (by have := HSwd4.out.size; omega) #[.int .i64 (d2 : Nat), .slice (some ⟨g, 0, none⟩) N2 N2])
      obtain ⟨ws11, hk⟩ : ∃ W, ad10.setRow (wd4.heap.size) #[.int .i64 (d2 : Nat), .slice (some ⟨g, 0, none⟩) N2 N2] = W := ⟨_, rfl⟩
      rw [hk] at HTRws11 HNDws11 HSws11' ⊢
      have HSws11 := HSws11'
      clear hk hgb
      refine hK.out _ _ HSws11.out (fun _ => ?_)
      clear hK
      try simp only [List.getElem_toArray, List.getElem_cons_succ, List.getElem_cons_zero, Act.put, List.setIfInBounds_toArray, List.set_cons_zero, List.set_cons_succ]
      refine wpAnyH_take (i := 10) (v := ?ve19) rfl (by kernel_rfl) (by kernel_rfl) (by kernel_rfl) (fun _ _ _ h => h) (Or.inl ⟨by rfl, ?ye19⟩) HSws11.out ?re19
      case ye19 => (intro w' hSw; clear hSw; go_simp; try with_reducible rfl)
      simp only [List.getElem_toArray, List.getElem_cons_succ, List.getElem_cons_zero, Act.put, List.setIfInBounds_toArray, List.set_cons_zero, List.set_cons_succ]
      refine wpAnyH_take (i := 11) (v := ?ve20) rfl (by kernel_rfl) (by kernel_rfl) (by kernel_rfl) (fun _ _ _ h => h) (Or.inl ⟨by rfl, ?ye20⟩) HSws11.out ?re20
      case ye20 => (intro w' hSw; clear hSw; go_simp; try with_reducible rfl)
      simp only [List.getElem_toArray, List.getElem_cons_succ, List.getElem_cons_zero, Act.put, List.setIfInBounds_toArray, List.set_cons_zero, List.set_cons_succ]
      refine wpAnyH_done (by kernel_rfl) ?_ _
      exact ⟨(qwl9, g, wd4.heap.size), rfl, Lib.hid ⟨HTRws11.out, HNDws11.out, HSws11.out⟩⟩
  case refine_2 =>
    rintro ⟨q5, g5, b5⟩ w6 H5
    simp only [List.setIfInBounds_toArray, List.set_cons_succ, List.set_cons_zero]
    dsimp only at H5 ⊢
    generalize (⟨g5, 0, none⟩ : Addr) = a5 at *
    have HTR := Lib.hid H5.out.1; have HN2' := Lib.hid H5.out.2.1; have HD6 := Lib.hid H5.out.2.2
    have HC6 : Hid (Below W0.heap.size W0 w6) := Lib.hid (HWd.out.trans (HD6.out.mono HWd.out.size))
    have hR2 : Right ns2 d2 := by
      have h := add_right HR.out (leafN_right nb) (by rw [HX.out.2.1]; exact H6.out)
      rw [HX.out.2.2, HX.out.2.1] at h
      exact h
    have HR2 := Lib.hid hR2
    have HLT := Lib.hid HTR.out.lt
    have hth : There ns2 d2 (f2 : Int) := by
      have h := add_new HR.out (leafN_right nb)
      rw [HX.out.2.2, HX.out.2.1, HX.out.1] at h
      exact h
    have HTH := Lib.hid hth
    obtain ⟨LV2, hLV2⟩ : ∃ x, leavesF ns2 d2 = x := ⟨_, rfl⟩
    have HLs := Lib.hid hLV2
    have C8 := Lib.hid (refLeaves_any d2 (some a5) N2 N2 ns2 w6 HN2'.out)
    rw [leavesT_yes hR2, hLV2] at C8
    clear hR2 hth hLV2 H5
    obtain ⟨s0, s1⟩ := (HTR.out).cs
    go_wp2_with fail
    refine C8.out.mono ?_
    rintro e' w8 ⟨AM, nm, cm, rfl, hX, hb⟩
    have HD8 := Lib.hid hb; have HM8 := Lib.hid hX.any
    have HC8 := Lib.hid (HC6.out.trans (hb.mono HC6.out.size))
    clear hb hX s0 s1 C8
    obtain ⟨s0, s1⟩ := (HTR.out.below HD8.out HLT.out).cs
    go_wp2_with fail
    refine (refRight_is d2 (some a5) N2 N2 ns2 true _ (HN2'.out.below HD8.out) (by simp; exact ⟨d2, rfl, HR2.out⟩)).mono ?_
    rintro e' w9 ⟨rfl, hb⟩
    have HD9 := Lib.hid (HD8.out.trans (hb.mono HD8.out.size)); have HC9 := Lib.hid (HC8.out.trans (hb.mono HC8.out.size)); have HM9 := Lib.hid (HM8.out.below hb)
    clear hb s0 s1 HM8 HD8 HC8
    obtain ⟨s0, s1⟩ := (HTR.out.below HD9.out HLT.out).cs
    obtain ⟨t0, t1⟩ := (HG1.out.below HC9.out HL1.out).cs
    have hnm : 0 < nm := by
      have h := add_leaves HR.out (leafN_right nb)
      rw [HX.out.2.2, HX.out.2.1, HLs.out] at h
      have := HM9.out.len
      omega
    have HNM := Lib.hid hnm
    obtain ⟨f2d, hp2⟩ : f2 < 2 ^ d2 ∧ 2 ^ d2 ≤ 64 := ⟨(there_nat.1 HTH.out).1, Nat.le_trans (Nat.pow_le_pow_right (by decide) H6.out) (by decide)⟩
    obtain ⟨M2, hM2⟩ : ∃ m, 2 ^ d2 = m := ⟨_, rfl⟩
    have HM2 := Lib.hid hM2
    have x1 : (2 : Int) ^ d2 = (M2 : Int) := by rw [← hM2]; simp
    rw [hM2] at f2d hp2
    have x3 : IntKind.i64.wrap (M2 : Int) = M2 := by rw [IntKind.wrap_i64]; omega
    have hd16 : d2 ≤ 16 := by have := H6.out; omega
    have hdd : d ≤ d2 := by have h := (addD_le (ns := ns) (d := d)).1; rw [HX.out.2.1] at h; exact h
    have z0 : decide ((f2 : Int) < 0) = false := by simp
    have z1 : decide ((M2 : Int) ≤ (f2 : Int)) = false := by simp only [decide_eq_false_iff_not]; omega
    have z2 : decide (M2 ≤ f2) = false := by simp only [decide_eq_false_iff_not]; omega
    have z3 : decide ((d2 : Int) < (d : Int)) = false := by simp only [decide_eq_false_iff_not]; omega
    have z4 : decide (d2 < d) = false := by simp only [decide_eq_false_iff_not]; omega
    have z5 : ((nm : Int) == 0) = false := by simp; omega
    have z6 : ¬ (f2 : Int) ≥ (M2 : Int) := by omega
    have HDD := Lib.hid (And.intro f2d (And.intro hp2 (And.intro hd16 hdd)))
    clear hM2 hnm
    go_wp2_with fail
    refine (rpath_is f2 d2 _ HDD.out.2.2.1 (by rw [HM2.out]; exact HDD.out.1)).mono ?_
    rintro e' w10 ⟨v10, rfl, hO, hb⟩
    obtain ⟨AP, cp, rfl⟩ := own_slice_c hO
    have HO10 := Lib.hid hO
    have HD10 := Lib.hid (HD9.out.trans (hb.mono HD9.out.size)); have HC10 := Lib.hid (HC9.out.trans (hb.mono HC9.out.size)); have HM10 := Lib.hid (HM9.out.below hb)
    clear hO hb s0 s1 t0 t1 z0 z1 z2 z3 z4 z5 z6 x1 x3 f2d hp2 hd16 hdd HD9 HC9 HM9
    go_wp2_with fail
    go_loopw [13] (fun v W => ∃ k : Nat, k ≤ d2 ∧ v = .int .i64 k ∧ Hid (Below w10.heap.size w10 W)) (fun v _ => d2 - (intOf v).toNat)
    case atStart => exact ⟨0, by omega, rfl, Lib.hid (Below.refl _ _)⟩
    case round =>
      obtain ⟨k, hk, rfl, HW⟩ := hrel
      have HDw : Hid (Below w6.heap.size w6 wr) := Lib.hid (HD10.out.trans (HW.out.mono HD10.out.size))
      have HCw : Hid (Below W0.heap.size W0 wr) := Lib.hid (HC10.out.trans (HW.out.mono HC10.out.size))
      have HMw := Lib.hid (HM10.out.below HW.out)
      by_cases hkd : k < d2
      case neg =>
        obtain rfl : k = d2 := by omega
        have yk : ¬ (k : Int) < (k : Int) := by omega
        obtain ⟨kk, hkk⟩ : ∃ k, ib % nm = k := ⟨_, rfl⟩
        have hkn : kk < nm := by rw [← hkk]; exact Nat.mod_lt _ HNM.out
        have y5 : (ib : Int) % (nm : Int) = (kk : Int) := by rw [← hkk]; rfl
        have y6 : Int.tmod (ib : Int) (nm : Int) = (kk : Int) := by rw [Int.tmod_eq_emod_of_nonneg (by omega)]; exact y5
        have yz : ((nm : Int) == 0) = false := by have := HNM.out; simp; omega
        have hmem : gi LV2 kk ∈ leavesF ns2 k := by rw [HLs.out]; exact gi_mem (by rw [HMw.out.len]; omega)
        have htj := mem_leavesF.1 hmem
        obtain ⟨j, hj⟩ := Int.eq_ofNat_of_zero_le htj.1
        rw [hj] at htj
        obtain ⟨aa, rfl⟩ := HMw.out.some (by omega)
        have c0 := HMw.out.cell kk hkn
        rw [hj] at c0
        have HTJ := Lib.hid htj
        have k1 : ¬ (kk : Int) < 0 := by omega
        have k2 : (kk : Int) < (nm : Int) := by omega
        have k3 : ¬ (kk : Int) ≥ (nm : Int) := by omega
        obtain ⟨nb1, hnb1', hnb1⟩ : ∃ x, (nb + 1) % 256 = x ∧ x < 256 := ⟨_, rfl, Nat.mod_lt _ (by decide)⟩
        have HWR8 : Hid (IntKind.u8.wrap ((nb : Int) + 1) = (nb1 : Int)) := Lib.hid (by rw [IntKind.wrap_u8]; omega)
        obtain ⟨rn, hrn⟩ : ∃ x, renF ns2 k j (leafN nb1) = x := ⟨_, rfl⟩
        have HRN := Lib.hid hrn
        have HDr0 : Hid (Below w6.heap.size w6 wr) := HDw
        have HD28 : Hid (Below w6.heap.size w6 wr.drew) := Lib.hid HDw.out.drew
        have HC28 : Hid (Below W0.heap.size W0 wr.drew) := Lib.hid HCw.out.drew
        have HWZ : Hid (wr.drew.heap.size ≤ wr.drew.heap.size) := Lib.hid (Nat.le_refl _)
        have CR : Hid (∀ (B : Nat) (q : NdQ) (W : World), Below wr.drew.heap.size wr.drew W → wr.drew.heap.size ≤ B → NdIs Any W q (leafN nb1) → NdFar (fun x => x ≠ B) q → Calls Tryz.prog 11 #[.agg #[.int .i64 k, .slice (some a5) N2 N2], .int .i64 j, .agg q.cs] W fun e w' => ∃ g2 bs2, e = .returned (.tuple #[.agg #[.int .i64 k, .slice (some ⟨g2, 0, none⟩) N2 N2], .int .i64 0]) ∧ W.heap.size ≤ g2 ∧ OwnN (fun x => x ≠ g2 ∧ (B < W.heap.size → x ≠ B) ∧ x < w'.heap.size) w' bs2 g2 N2 N2 rn ∧ Below W.heap.size W w') := Lib.hid fun B q W hb hB hq hf => by
          have hW := HD28.out.trans (hb.mono HD28.out.size)
          have hC := HC28.out.trans (hb.mono HC28.out.size)
          refine law_renew k (some a5) N2 N2 ns2 nb1 j N2 rn HR2.out HTJ.out HN2.out hrn B q W (HN2'.out.below hW) (fun ad e j q hj hat => ?_) hq hf (HT.out.below hC).sp
          exact ((HN2'.out.below HD28.out).farB hb ad e j q hj hat).mono (fun x hx => by omega)
        clear hkk hmem hj htj hrn hnb1'
        go_wp2_with fail
        refine wp_cut (fun a (x : NdQ × Nat × Nat) => { tmps := ((((((((((a.tmps.setIfInBounds 163 (.agg #[.int .i64 k, .slice (some a5) N2 N2])).setIfInBounds 164 (.int .i64 j)).setIfInBounds 165 (.int .u8 nb)).setIfInBounds 166 (.int .u8 nb1)).setIfInBounds 167 (.agg x.1.cs)).setIfInBounds 168 (.tuple #[.agg #[.int .i64 k, .slice (some ⟨x.2.1, 0, none⟩) N2 N2], .int .i64 0])).setIfInBounds 162 (.tuple #[.agg #[.int .i64 k, .slice (some ⟨x.2.1, 0, none⟩) N2 N2], .int .i64 0])).setIfInBounds 169 (.agg #[.int .i64 k, .slice (some ⟨x.2.1, 0, none⟩) N2 N2])).setIfInBounds 170 (.int .i64 0)).setIfInBounds 19 (.pointer (some ⟨x.2.2, 0, none⟩))).setIfInBounds 20 (.int .i64 0), defers := a.defers })
          (fun x W => Hid (TrB k (some ⟨x.2.1, 0, none⟩) N2 N2 W x.2.2 ∧ Nodes Any Any W (some ⟨x.2.1, 0, none⟩) N2 N2 rn ∧ Below wr.drew.heap.size wr.drew W)) ?_ ?_
        case refine_1 =>
          clear c0 k1 k2 k3 y5 y6 yz
          try simp only [Act.put]
          refine Wr.region_calm ?_
          refine wp_region_any (by kernel_rfl) ?_
          change wpAny _ _ _ _ _ _ _ (World.drew wr)
          have HSwdr : Hid (Below (World.drew wr).heap.size (World.drew wr) (World.drew wr)) := Lib.hid (Below.refl _ _)
          generalize World.drew wr = wdr at *
          refine wpAny_of_held (S := fun W => Below wdr.heap.size wdr W) _ _ _ _ ?_
          refine wpAnyH_take (i := 0) (v := ?ve71) rfl (by kernel_rfl) (by kernel_rfl) (by kernel_rfl) (fun _ _ _ h => h) (Or.inl ⟨by rfl, ?ye71⟩) HSwdr.out ?re71
          case ye71 => (intro w' hSw; obtain ⟨s0, s1⟩ := (HTR.out.below (HD28.out.trans (hSw.mono HD28.out.size)) HLT.out).cs; clear hSw; go_simp; try with_reducible rfl)
          simp only [List.getElem_toArray, List.getElem_cons_succ, List.getElem_cons_zero, Act.put, List.setIfInBounds_toArray, List.set_cons_zero, List.set_cons_succ]
          refine wpAnyH_take (i := 1) (v := ?ve72) rfl (by kernel_rfl) (by kernel_rfl) (by kernel_rfl) (fun _ _ _ h => h) (Or.inl ⟨by rfl, ?ye72⟩) HSwdr.out ?re72
          case ye72 => (intro w' hSw; clear hSw; go_simp; try with_reducible rfl)
          simp only [List.getElem_toArray, List.getElem_cons_succ, List.getElem_cons_zero, Act.put, List.setIfInBounds_toArray, List.set_cons_zero, List.set_cons_succ]
          refine wpAnyH_take (i := 2) (v := ?ve73) rfl (by kernel_rfl) (by kernel_rfl) (by kernel_rfl) (fun _ _ _ h => h) (Or.inl ⟨by rfl, ?ye73⟩) HSwdr.out ?re73
          case ye73 => (intro w' hSw; clear hSw; go_simp; try with_reducible rfl)
          simp only [List.getElem_toArray, List.getElem_cons_succ, List.getElem_cons_zero, Act.put, List.setIfInBounds_toArray, List.set_cons_zero, List.set_cons_succ]
          refine wpAnyH_take (i := 3) (v := ?ve74) rfl (by kernel_rfl) (by kernel_rfl) (by kernel_rfl) (fun _ _ _ h => h) (Or.inl ⟨by rfl, ?ye74⟩) HSwdr.out ?re74
          case ye74 => (intro w' hSw; have yw := HWR8.out; clear hSw; go_simp; try with_reducible rfl)
          simp only [List.getElem_toArray, List.getElem_cons_succ, List.getElem_cons_zero, Act.put, List.setIfInBounds_toArray, List.set_cons_zero, List.set_cons_succ]
          refine wpAnyH_ready (rs := [4, 9]) (by kernel_rfl) (by simp) ?_
          refine (AllReadyH.cons rfl (fun K' hK => ?_) (AllReadyH.cons rfl (fun K' hK => ?_) AllReadyH.nil))
          · skip
            simp only [List.getElem_toArray, List.getElem_cons_succ, List.getElem_cons_zero]
            go_simp
            refine (leaf_any nb1 hnb1 wdr).mono ?_
            rintro e' wl23 ⟨qwl23, rfl, hq, hqf, hb⟩
            have HQwl23 := Lib.hid hq; have HFwl23 := Lib.hid (hqf.and hq.far); have HSwl23 := Lib.hid (HSwdr.out.trans (hb.mono HSwdr.out.size)); have HVwl23 := Lib.hid hb.size
            clear hq hqf hb
            refine hK.out _ _ HSwl23.out (fun _ => ?_)
            clear hK
            try simp only [List.getElem_toArray, List.getElem_cons_succ, List.getElem_cons_zero, Act.put, List.setIfInBounds_toArray, List.set_cons_zero, List.set_cons_succ]
            refine wpAnyH_ready (rs := [5, 9]) (by kernel_rfl) (by simp) ?_
            refine (AllReadyH.cons rfl (fun K' hK => ?_) (AllReadyH.cons rfl (fun K' hK => ?_) AllReadyH.nil))
            · skip
              simp only [List.getElem_toArray, List.getElem_cons_succ, List.getElem_cons_zero]
              go_simp
              have hfq : NdFar (fun x => x ≠ wl23.heap.size) qwl23 := (HFwl23.out).mono (fun x hx => by (have h1 := hx.1; have h2 := hx.2; have := HVwl23.out; omega))
              refine (CR.out wl23.heap.size qwl23 wl23 HSwl23.out (by have := HWZ.out; have := HSwl23.out.size;  omega) HQwl23.out hfq).mono ?_
              rintro e' ad24 ⟨g, bs, rfl, hg2, ho, hb⟩
              have HOad24 := Lib.hid ho; have HGad24 := Lib.hid hg2; have HSad24 := Lib.hid (HSwl23.out.trans (hb.mono HSwl23.out.size)); have HVad24 := Lib.hid hb.size
              clear hfq hg2 ho hb
              refine hK.out _ _ HSad24.out (fun _ => ?_)
              clear hK
              try simp only [List.getElem_toArray, List.getElem_cons_succ, List.getElem_cons_zero, Act.put, List.setIfInBounds_toArray, List.set_cons_zero, List.set_cons_succ]
              refine wpAnyH_take (i := 6) (v := ?ve75) rfl (by kernel_rfl) (by kernel_rfl) (by kernel_rfl) (fun _ _ _ h => h) (Or.inl ⟨by rfl, ?ye75⟩) HSad24.out ?re75
              case ye75 => (intro w' hSw; clear hSw; go_simp; try with_reducible rfl)
              simp only [List.getElem_toArray, List.getElem_cons_succ, List.getElem_cons_zero, Act.put, List.setIfInBounds_toArray, List.set_cons_zero, List.set_cons_succ]
              refine wpAnyH_take (i := 7) (v := ?ve76) rfl (by kernel_rfl) (by kernel_rfl) (by kernel_rfl) (fun _ _ _ h => h) (Or.inl ⟨by rfl, ?ye76⟩) HSad24.out ?re76
              case ye76 => (intro w' hSw; clear hSw; go_simp; try with_reducible rfl)
              simp only [List.getElem_toArray, List.getElem_cons_succ, List.getElem_cons_zero, Act.put, List.setIfInBounds_toArray, List.set_cons_zero, List.set_cons_succ]
              refine wpAnyH_take (i := 8) (v := ?ve77) rfl (by kernel_rfl) (by kernel_rfl) (by kernel_rfl) (fun _ _ _ h => h) (Or.inl ⟨by rfl, ?ye77⟩) HSad24.out ?re77
              case ye77 => (intro w' hSw; clear hSw; go_simp; try with_reducible rfl)
              simp only [List.getElem_toArray, List.getElem_cons_succ, List.getElem_cons_zero, Act.put, List.setIfInBounds_toArray, List.set_cons_zero, List.set_cons_succ]
              refine wpAnyH_ready (rs := [9]) (by kernel_rfl) (by simp) ?_
              refine (AllReadyH.cons rfl (fun K' hK => ?_) AllReadyH.nil)
              simp only [List.getElem_toArray, List.getElem_cons_succ, List.getElem_cons_zero]
              go_simp
              have ba := below_one ad24 (.cells zt 24)
              have za := heap_alloc_last ad24 (.cells zt 24)
              obtain ⟨wa25, hwa⟩ : ∃ wa, ad24.alloc (.cells zt 24) = wa := ⟨_, rfl⟩
              rw [hwa] at ba za
              try rw [hwa]
              have HSwa25 := Lib.hid (HSad24.out.trans (ba.mono HSad24.out.size)); have HZwa25 := Lib.hid za
              have HVwa25 := Lib.hid (show ad24.heap.size < wa25.heap.size from (Array.getElem?_eq_some_iff.1 za).1)
              have HOwa25 := Lib.hid (HOad24.out.below ba)
              clear hwa ba za
              refine hK.out _ _ HSwa25.out (fun _ => ?_)
              clear hK
              try simp only [List.getElem_toArray, List.getElem_cons_succ, List.getElem_cons_zero, Act.put, List.setIfInBounds_toArray, List.set_cons_zero, List.set_cons_succ]
              refine wpAnyH_ready (rs := [10]) (by kernel_rfl) (by simp) ?_
              refine (AllReadyH.cons rfl (fun K' hK => ?_) AllReadyH.nil)
              simp only [List.getElem_toArray, List.getElem_cons_succ, List.getElem_cons_zero]
              rw [if_pos (by rfl)]
              refine wp_store_row 24 (.tmp 19) (.tmp 169) rfl (ad24.heap.size) #[.int .i64 (k : Nat), .slice (some ⟨g, 0, none⟩) N2 N2] rfl rfl 24 zt HZwa25.out (tr_sized _ _ _ _) rfl (tr_all _ _ _ _) ?_
              have HTRws26 := Lib.hid (setRow_heap wa25 (ad24.heap.size) _ #[.int .i64 (k : Nat), .slice (some ⟨g, 0, none⟩) N2 N2] 24 _ HZwa25.out)
              have hgb : g ≠ ad24.heap.size := by (have h1 := HGad24.out; have h2 := HOad24.out.lt.2; have := HVwl23.out; have := HVad24.out; have := HVwa25.out; omega)
              have HNDws26 := Lib.hid ((HOwa25.out.kept (w' := wa25.setRow (ad24.heap.size) #[.int .i64 (k : Nat), .slice (some ⟨g, 0, none⟩) N2 N2]) (by simp [World.setRow]) (setRow_other wa25 _ _ _ hgb) (fun b hb _ => setRow_other wa25 _ b _ (by have h1 := hb.2.2; omega))).nodes.any)
              have HSws26' := Lib.hid (below_setRow HSwa25.out (by have := HSad24.out.size; omega) #[.int .i64 (k : Nat), .slice (some ⟨g, 0, none⟩) N2 N2])
              obtain ⟨ws26, hk⟩ : ∃ W, wa25.setRow (ad24.heap.size) #[.int .i64 (k : Nat), .slice (some ⟨g, 0, none⟩) N2 N2] = W := ⟨_, rfl⟩
              rw [hk] at HTRws26 HNDws26 HSws26' ⊢
              have HSws26 := HSws26'
              clear hk hgb
              refine hK.out _ _ HSws26.out (fun _ => ?_)
              clear hK
              try simp only [List.getElem_toArray, List.getElem_cons_succ, List.getElem_cons_zero, Act.put, List.setIfInBounds_toArray, List.set_cons_zero, List.set_cons_succ]
              refine wpAnyH_take (i := 11) (v := ?ve78) rfl (by kernel_rfl) (by kernel_rfl) (by kernel_rfl) (fun _ _ _ h => h) (Or.inl ⟨by rfl, ?ye78⟩) HSws26.out ?re78
              case ye78 => (intro w' hSw; clear hSw; go_simp; try with_reducible rfl)
              simp only [List.getElem_toArray, List.getElem_cons_succ, List.getElem_cons_zero, Act.put, List.setIfInBounds_toArray, List.set_cons_zero, List.set_cons_succ]
              refine wpAnyH_done (by kernel_rfl) ?_ _
              exact ⟨(qwl23, g, ad24.heap.size), rfl, Lib.hid ⟨HTRws26.out, HNDws26.out, HSws26.out⟩⟩
            · skip
              simp only [List.getElem_toArray, List.getElem_cons_succ, List.getElem_cons_zero]
              go_simp
              have ba := below_one wl23 (.cells zt 24)
              have za := heap_alloc_last wl23 (.cells zt 24)
              obtain ⟨wa27, hwa⟩ : ∃ wa, wl23.alloc (.cells zt 24) = wa := ⟨_, rfl⟩
              rw [hwa] at ba za
              try rw [hwa]
              have HSwa27 := Lib.hid (HSwl23.out.trans (ba.mono HSwl23.out.size)); have HZwa27 := Lib.hid za
              have HVwa27 := Lib.hid (show wl23.heap.size < wa27.heap.size from (Array.getElem?_eq_some_iff.1 za).1)
              have HQwa27 := Lib.hid (HQwl23.out.below ba)
              clear hwa ba za
              refine hK.out _ _ HSwa27.out (fun _ => ?_)
              clear hK
              try simp only [List.getElem_toArray, List.getElem_cons_succ, List.getElem_cons_zero, Act.put, List.setIfInBounds_toArray, List.set_cons_zero, List.set_cons_succ]
              refine wpAnyH_ready (rs := [5]) (by kernel_rfl) (by simp) ?_
              refine (AllReadyH.cons rfl (fun K' hK => ?_) AllReadyH.nil)
              simp only [List.getElem_toArray, List.getElem_cons_succ, List.getElem_cons_zero]
              go_simp
              have hfq : NdFar (fun x => x ≠ wl23.heap.size) qwl23 := (HFwl23.out).mono (fun x hx => by (have h1 := hx.1; have h2 := hx.2; have := HVwl23.out; have := HVwa27.out; omega))
              refine (CR.out wl23.heap.size qwl23 wa27 HSwa27.out (by have := HWZ.out; have := HSwa27.out.size; have := HSwl23.out.size; omega) HQwa27.out hfq).mono ?_
              rintro e' ad28 ⟨g, bs, rfl, hg2, ho, hb⟩
              have HOad28 := Lib.hid ho; have HGad28 := Lib.hid hg2; have HSad28 := Lib.hid (HSwa27.out.trans (hb.mono HSwa27.out.size)); have HVad28 := Lib.hid hb.size
              have HZad28 := Lib.hid ((hb.block _ (Array.getElem?_eq_some_iff.1 HZwa27.out).1).trans HZwa27.out)
              clear hfq hg2 ho hb
              refine hK.out _ _ HSad28.out (fun _ => ?_)
              clear hK
              try simp only [List.getElem_toArray, List.getElem_cons_succ, List.getElem_cons_zero, Act.put, List.setIfInBounds_toArray, List.set_cons_zero, List.set_cons_succ]
              refine wpAnyH_take (i := 6) (v := ?ve79) rfl (by kernel_rfl) (by kernel_rfl) (by kernel_rfl) (fun _ _ _ h => h) (Or.inl ⟨by rfl, ?ye79⟩) HSad28.out ?re79
              case ye79 => (intro w' hSw; clear hSw; go_simp; try with_reducible rfl)
              simp only [List.getElem_toArray, List.getElem_cons_succ, List.getElem_cons_zero, Act.put, List.setIfInBounds_toArray, List.set_cons_zero, List.set_cons_succ]
              refine wpAnyH_take (i := 7) (v := ?ve80) rfl (by kernel_rfl) (by kernel_rfl) (by kernel_rfl) (fun _ _ _ h => h) (Or.inl ⟨by rfl, ?ye80⟩) HSad28.out ?re80
              case ye80 => (intro w' hSw; clear hSw; go_simp; try with_reducible rfl)
              simp only [List.getElem_toArray, List.getElem_cons_succ, List.getElem_cons_zero, Act.put, List.setIfInBounds_toArray, List.set_cons_zero, List.set_cons_succ]
              refine wpAnyH_take (i := 8) (v := ?ve81) rfl (by kernel_rfl) (by kernel_rfl) (by kernel_rfl) (fun _ _ _ h => h) (Or.inl ⟨by rfl, ?ye81⟩) HSad28.out ?re81
              case ye81 => (intro w' hSw; clear hSw; go_simp; try with_reducible rfl)
              simp only [List.getElem_toArray, List.getElem_cons_succ, List.getElem_cons_zero, Act.put, List.setIfInBounds_toArray, List.set_cons_zero, List.set_cons_succ]
              refine wpAnyH_ready (rs := [10]) (by kernel_rfl) (by simp) ?_
              refine (AllReadyH.cons rfl (fun K' hK => ?_) AllReadyH.nil)
              simp only [List.getElem_toArray, List.getElem_cons_succ, List.getElem_cons_zero]
              rw [if_pos (by rfl)]
              refine wp_store_row 24 (.tmp 19) (.tmp 169) rfl (wl23.heap.size) #[.int .i64 (k : Nat), .slice (some ⟨g, 0, none⟩) N2 N2] rfl rfl 24 zt HZad28.out (tr_sized _ _ _ _) rfl (tr_all _ _ _ _) ?_
              have HTRws29 := Lib.hid (setRow_heap ad28 (wl23.heap.size) _ #[.int .i64 (k : Nat), .slice (some ⟨g, 0, none⟩) N2 N2] 24 _ HZad28.out)
              have hgb : g ≠ wl23.heap.size := by (have h1 := HGad28.out;  have := HVwl23.out; have := HVwa27.out; have := HVad28.out; omega)
              have HNDws29 := Lib.hid ((HOad28.out.kept (w' := ad28.setRow (wl23.heap.size) #[.int .i64 (k : Nat), .slice (some ⟨g, 0, none⟩) N2 N2]) (by simp [World.setRow]) (setRow_other ad28 _ _ _ hgb) (fun b hb _ => setRow_other ad28 _ b _ (by exact hb.2.1 (by have := HVwl23.out; have := HVwa27.out; have := HVad28.out; omega)))).nodes.any)
              have HSws29' := Lib.hid (below_setRow HSad28.out (by have := HSwl23.out.size; omega) #[.int .i64 (k : Nat), .slice (some ⟨g, 0, none⟩) N2 N2])
              obtain ⟨ws29, hk⟩ : ∃ W, ad28.setRow (wl23.heap.size) #[.int .i64 (k : Nat), .slice (some ⟨g, 0, none⟩) N2 N2] = W := ⟨_, rfl⟩
              rw [hk] at HTRws29 HNDws29 HSws29' ⊢
              have HSws29 := HSws29'
              clear hk hgb
              refine hK.out _ _ HSws29.out (fun _ => ?_)
              clear hK
              try simp only [List.getElem_toArray, List.getElem_cons_succ, List.getElem_cons_zero, Act.put, List.setIfInBounds_toArray, List.set_cons_zero, List.set_cons_succ]
              refine wpAnyH_take (i := 11) (v := ?ve82) rfl (by kernel_rfl) (by kernel_rfl) (by kernel_rfl) (fun _ _ _ h => h) (Or.inl ⟨by rfl, ?ye82⟩) HSws29.out ?re82
              case ye82 => (intro w' hSw; clear hSw; go_simp; try with_reducible rfl)
              simp only [List.getElem_toArray, List.getElem_cons_succ, List.getElem_cons_zero, Act.put, List.setIfInBounds_toArray, List.set_cons_zero, List.set_cons_succ]
              refine wpAnyH_done (by kernel_rfl) ?_ _
              exact ⟨(qwl23, g, wl23.heap.size), rfl, Lib.hid ⟨HTRws29.out, HNDws29.out, HSws29.out⟩⟩
          · skip
            simp only [List.getElem_toArray, List.getElem_cons_succ, List.getElem_cons_zero]
            go_simp
            have ba := below_one wdr (.cells zt 24)
            have za := heap_alloc_last wdr (.cells zt 24)
            obtain ⟨wa30, hwa⟩ : ∃ wa, wdr.alloc (.cells zt 24) = wa := ⟨_, rfl⟩
            rw [hwa] at ba za
            try rw [hwa]
            have HSwa30 := Lib.hid (HSwdr.out.trans (ba.mono HSwdr.out.size)); have HZwa30 := Lib.hid za
            have HVwa30 := Lib.hid (show wdr.heap.size < wa30.heap.size from (Array.getElem?_eq_some_iff.1 za).1)
            clear hwa ba za
            refine hK.out _ _ HSwa30.out (fun _ => ?_)
            clear hK
            try simp only [List.getElem_toArray, List.getElem_cons_succ, List.getElem_cons_zero, Act.put, List.setIfInBounds_toArray, List.set_cons_zero, List.set_cons_succ]
            refine wpAnyH_ready (rs := [4]) (by kernel_rfl) (by simp) ?_
            refine (AllReadyH.cons rfl (fun K' hK => ?_) AllReadyH.nil)
            simp only [List.getElem_toArray, List.getElem_cons_succ, List.getElem_cons_zero]
            go_simp
            refine (leaf_any nb1 hnb1 wa30).mono ?_
            rintro e' wl31 ⟨qwl31, rfl, hq, hqf, hb⟩
            have HQwl31 := Lib.hid hq; have HFwl31 := Lib.hid (hqf.and hq.far); have HSwl31 := Lib.hid (HSwa30.out.trans (hb.mono HSwa30.out.size)); have HVwl31 := Lib.hid hb.size
            have HZwl31 := Lib.hid ((hb.block _ (Array.getElem?_eq_some_iff.1 HZwa30.out).1).trans HZwa30.out)
            clear hq hqf hb
            refine hK.out _ _ HSwl31.out (fun _ => ?_)
            clear hK
            try simp only [List.getElem_toArray, List.getElem_cons_succ, List.getElem_cons_zero, Act.put, List.setIfInBounds_toArray, List.set_cons_zero, List.set_cons_succ]
            refine wpAnyH_ready (rs := [5]) (by kernel_rfl) (by simp) ?_
            refine (AllReadyH.cons rfl (fun K' hK => ?_) AllReadyH.nil)
            simp only [List.getElem_toArray, List.getElem_cons_succ, List.getElem_cons_zero]
            go_simp
            have hfq : NdFar (fun x => x ≠ wdr.heap.size) qwl31 := (HFwl31.out).mono (fun x hx => by (have h1 := hx.1; have h2 := hx.2; have := HVwa30.out; have := HVwl31.out; omega))
            refine (CR.out wdr.heap.size qwl31 wl31 HSwl31.out (by have := HWZ.out; have := HSwl31.out.size; have := HSwdr.out.size; omega) HQwl31.out hfq).mono ?_
            rintro e' ad32 ⟨g, bs, rfl, hg2, ho, hb⟩
            have HOad32 := Lib.hid ho; have HGad32 := Lib.hid hg2; have HSad32 := Lib.hid (HSwl31.out.trans (hb.mono HSwl31.out.size)); have HVad32 := Lib.hid hb.size
            have HZad32 := Lib.hid ((hb.block _ (Array.getElem?_eq_some_iff.1 HZwl31.out).1).trans HZwl31.out)
            clear hfq hg2 ho hb
            refine hK.out _ _ HSad32.out (fun _ => ?_)
            clear hK
            try simp only [List.getElem_toArray, List.getElem_cons_succ, List.getElem_cons_zero, Act.put, List.setIfInBounds_toArray, List.set_cons_zero, List.set_cons_succ]
            refine wpAnyH_take (i := 6) (v := ?ve83) rfl (by kernel_rfl) (by kernel_rfl) (by kernel_rfl) (fun _ _ _ h => h) (Or.inl ⟨by rfl, ?ye83⟩) HSad32.out ?re83
            case ye83 => (intro w' hSw; clear hSw; go_simp; try with_reducible rfl)
            simp only [List.getElem_toArray, List.getElem_cons_succ, List.getElem_cons_zero, Act.put, List.setIfInBounds_toArray, List.set_cons_zero, List.set_cons_succ]
            refine wpAnyH_take (i := 7) (v := ?ve84) rfl (by kernel_rfl) (by kernel_rfl) (by kernel_rfl) (fun _ _ _ h => h) (Or.inl ⟨by rfl, ?ye84⟩) HSad32.out ?re84
            case ye84 => (intro w' hSw; clear hSw; go_simp; try with_reducible rfl)
            simp only [List.getElem_toArray, List.getElem_cons_succ, List.getElem_cons_zero, Act.put, List.setIfInBounds_toArray, List.set_cons_zero, List.set_cons_succ]
            refine wpAnyH_take (i := 8) (v := ?ve85) rfl (by kernel_rfl) (by kernel_rfl) (by kernel_rfl) (fun _ _ _ h => h) (Or.inl ⟨by rfl, ?ye85⟩) HSad32.out ?re85
            case ye85 => (intro w' hSw; clear hSw; go_simp; try with_reducible rfl)
            simp only [List.getElem_toArray, List.getElem_cons_succ, List.getElem_cons_zero, Act.put, List.setIfInBounds_toArray, List.set_cons_zero, List.set_cons_succ]
            refine wpAnyH_ready (rs := [10]) (by kernel_rfl) (by simp) ?_
            refine (AllReadyH.cons rfl (fun K' hK => ?_) AllReadyH.nil)
            simp only [List.getElem_toArray, List.getElem_cons_succ, List.getElem_cons_zero]
            rw [if_pos (by rfl)]
            refine wp_store_row 24 (.tmp 19) (.tmp 169) rfl (wdr.heap.size) #[.int .i64 (k : Nat), .slice (some ⟨g, 0, none⟩) N2 N2] rfl rfl 24 zt HZad32.out (tr_sized _ _ _ _) rfl (tr_all _ _ _ _) ?_
            have HTRws33 := Lib.hid (setRow_heap ad32 (wdr.heap.size) _ #[.int .i64 (k : Nat), .slice (some ⟨g, 0, none⟩) N2 N2] 24 _ HZad32.out)
            have hgb : g ≠ wdr.heap.size := by (have h1 := HGad32.out;  have := HVwa30.out; have := HVwl31.out; have := HVad32.out; omega)
            have HNDws33 := Lib.hid ((HOad32.out.kept (w' := ad32.setRow (wdr.heap.size) #[.int .i64 (k : Nat), .slice (some ⟨g, 0, none⟩) N2 N2]) (by simp [World.setRow]) (setRow_other ad32 _ _ _ hgb) (fun b hb _ => setRow_other ad32 _ b _ (by exact hb.2.1 (by have := HVwa30.out; have := HVwl31.out; have := HVad32.out; omega)))).nodes.any)
            have HSws33' := Lib.hid (below_setRow HSad32.out (by have := HSwdr.out.size; omega) #[.int .i64 (k : Nat), .slice (some ⟨g, 0, none⟩) N2 N2])
            obtain ⟨ws33, hk⟩ : ∃ W, ad32.setRow (wdr.heap.size) #[.int .i64 (k : Nat), .slice (some ⟨g, 0, none⟩) N2 N2] = W := ⟨_, rfl⟩
            rw [hk] at HTRws33 HNDws33 HSws33' ⊢
            have HSws33 := HSws33'
            clear hk hgb
            refine hK.out _ _ HSws33.out (fun _ => ?_)
            clear hK
            try simp only [List.getElem_toArray, List.getElem_cons_succ, List.getElem_cons_zero, Act.put, List.setIfInBounds_toArray, List.set_cons_zero, List.set_cons_succ]
            refine wpAnyH_take (i := 11) (v := ?ve86) rfl (by kernel_rfl) (by kernel_rfl) (by kernel_rfl) (fun _ _ _ h => h) (Or.inl ⟨by rfl, ?ye86⟩) HSws33.out ?re86
            case ye86 => (intro w' hSw; clear hSw; go_simp; try with_reducible rfl)
            simp only [List.getElem_toArray, List.getElem_cons_succ, List.getElem_cons_zero, Act.put, List.setIfInBounds_toArray, List.set_cons_zero, List.set_cons_succ]
            refine wpAnyH_done (by kernel_rfl) ?_ _
            exact ⟨(qwl31, g, wdr.heap.size), rfl, Lib.hid ⟨HTRws33.out, HNDws33.out, HSws33.out⟩⟩
        case refine_2 =>
          rintro ⟨q7, g7, b7⟩ w7 H7
          simp only [List.setIfInBounds_toArray, List.set_cons_succ, List.set_cons_zero]
          dsimp only at H7 ⊢
          generalize (⟨g7, 0, none⟩ : Addr) = a7 at *
          have HT7 := Lib.hid H7.out.1; have HN7 := Lib.hid H7.out.2.1; have HB7 := Lib.hid H7.out.2.2
          have HL7 := Lib.hid HT7.out.lt
          clear H7
          have HD7 : Hid (Below w6.heap.size w6 w7) := Lib.hid (HD28.out.trans (HB7.out.mono HD28.out.size))
          have HC7 : Hid (Below W0.heap.size W0 w7) := Lib.hid (HC28.out.trans (HB7.out.mono HC28.out.size))
          have hjd := (there_nat.1 HTJ.out).1
          have hR7 : Right rn k := by rw [← HRN.out]; exact ren_right HR2.out hjd (.inr (leafN_right nb1))
          have HR7 := Lib.hid hR7
          obtain ⟨f3, hf3⟩ : ∃ x, remF ns2 k j = x := ⟨_, rfl⟩
          obtain ⟨d3, hd3⟩ : ∃ x, remD ns2 k j = x := ⟨_, rfl⟩
          have hR3 : Right f3 d3 := by rw [← hf3, ← hd3]; exact rem_right HR2.out hjd
          have HR3 := Lib.hid hR3; have HF3 := Lib.hid hf3
          have C9 := remove_yes k (some a5) N2 N2 ns2 j w7 (HN2'.out.below HD7.out) (HT.out.below HC7.out).sp HR2.out HTJ.out
          rw [hf3, hd3] at C9
          have HC9' := Lib.hid C9; have HJD := Lib.hid hjd
          clear hR7 hR3 hf3 hd3 C9 c0 k1 k2 k3 y5 y6 yz hjd
          obtain ⟨s0, s1⟩ := (HTR.out.below HD7.out HLT.out).cs
          go_wp2_with fail
          refine HC9'.out.mono ?_
          rintro e' w21 ⟨g9, n9, c9, rfl, hN9, hg9, hb⟩
          generalize (⟨g9, 0, none⟩ : Addr) = a9 at *
          have HE21 := Lib.hid hb; have HN21 := Lib.hid hN9
          clear hb hN9 hg9 s0 s1 HC9'
          obtain ⟨w22, hw22, g22, hb22⟩ := one_new w21 (d3 : Int) (some a9) n9 c9
          have HE22 := Lib.hid (HE21.out.trans (hb22.mono HE21.out.size)); have HN22 := Lib.hid (HN21.out.below hb22)
          have HG22 := Lib.hid g22; have HL22 := Lib.hid g22.lt
          obtain ⟨b9, hb9⟩ : ∃ b, w21.heap.size = b := ⟨_, rfl⟩
          rw [hb9] at HG22 HL22
          clear g22 hb22 HN21 HE21
          obtain ⟨r0, r1⟩ := (HT7.out.below HE22.out HL7.out).cs
          go_wp2_with fail
          try rw [hw22]
          try rw [hb9]
          clear hw22 hb9
          refine (refRight_is k (some a7) N2 N2 rn true _ (HN7.out.below HE22.out) (by simp; exact ⟨k, rfl, HR7.out⟩)).mono ?_
          rintro e' w23 ⟨rfl, hb⟩
          have HF23 := Lib.hid hb; have HE23 := Lib.hid (HE22.out.trans (hb.mono HE22.out.size))
          clear hb r0 r1
          obtain ⟨r0, r1⟩ := (HT7.out.below HE23.out HL7.out).cs
          obtain ⟨q0, q1⟩ := (HG22.out.below HF23.out HL22.out).cs
          obtain ⟨s0, s1⟩ := (HTR.out.below (HD7.out.trans (HE23.out.mono HD7.out.size)) HLT.out).cs
          have ykk : ((k : Int) != (k : Int)) = false := by simp
          go_wp2_with fail
          refine (refRight_is d3 (some a9) n9 c9 f3 true _ (HN22.out.below HF23.out) (by simp; exact ⟨d3, rfl, HR3.out⟩)).mono ?_
          rintro e' w24 ⟨rfl, hb⟩
          have HF24 := Lib.hid (HF23.out.trans (hb.mono HF23.out.size)); have HE24 := Lib.hid (HE23.out.trans (hb.mono HE23.out.size))
          clear hb r0 r1 q0 q1 s0 s1 ykk
          obtain ⟨s0, s1⟩ := (HTR.out.below (HD7.out.trans (HE24.out.mono HD7.out.size)) HLT.out).cs
          go_wp2_with fail
          refine (rpath_is j k _ HDD.out.2.2.1 HJD.out).mono ?_
          rintro e' w25 ⟨v25, rfl, hO, hb⟩
          obtain ⟨AQ, cq, rfl⟩ := own_slice_c hO
          have HO25 := Lib.hid hO
          have HF25 := Lib.hid (HF24.out.trans (hb.mono HF24.out.size)); have HE25 := Lib.hid (HE24.out.trans (hb.mono HE24.out.size))
          clear hO hb s0 s1 HF24 HE24 HF23 HE23
          go_wp2_with fail
          go_loopw [24] (fun v W => ∃ i : Nat, i ≤ k ∧ v = .int .i64 i ∧ Hid (Below w25.heap.size w25 W)) (fun v _ => k - (intOf v).toNat)
          case atStart => exact ⟨0, by omega, rfl, Lib.hid (Below.refl _ _)⟩
          case round =>
            obtain ⟨i, hi, rfl, HW⟩ := hrel
            have HFw := Lib.hid (HF25.out.trans (HW.out.mono HF25.out.size)); have HEw := Lib.hid (HE25.out.trans (HW.out.mono HE25.out.size))
            by_cases hik : i < k
            case neg =>
              obtain rfl : i = k := by omega
              have yi : ¬ (i : Int) < (i : Int) := by omega
              go_wp2
              go_ret
              exact ⟨rfl, B0.out.trans ((HC7.out.trans (HEw.out.mono HC7.out.size)).mono B0.out.size)⟩
            have yi : (i : Int) < (k : Int) := by omega
            obtain ⟨gp, hAP, c0⟩ : ∃ gp, AQ = some ⟨gp, 0, none⟩ ∧ wr.cell? ⟨gp, i, none⟩ = some (.complex .f64 (Fl.fl (i + 1)) (Fl.fl (j / 2 ^ (i + 1)))) := own_cpx HO25.out HW.out i hik
            subst hAP
            obtain ⟨m, hm⟩ : ∃ m, idx (i + 1) (j / 2 ^ (i + 1)) = m := ⟨_, rfl⟩
            have hp64 : 2 ^ k ≤ 64 := by rw [HM2.out]; exact HDD.out.2.1
            have CI := idx_c (Sp.is_step j (i + 1) (by have := HJD.out; omega) (by have := HDD.out.2.2.1; omega))
            rw [hm] at CI
            obtain ⟨x, hx⟩ : ∃ x, Fl.fl (i + 1) = x := ⟨_, rfl⟩
            obtain ⟨y, hy⟩ : ∃ y, Fl.fl (j / 2 ^ (i + 1)) = y := ⟨_, rfl⟩
            rw [hx, hy] at CI c0
            have HCI := Lib.hid CI
            have hmN : m < N2 := by rw [← HN2.out, ← hm]; exact above_lt hik HJD.out
            have z1 := ren_above HR2.out j i (leafN nb1) HJD.out hik m hm
            rw [HRN.out] at z1
            have z2 := rem_above HR2.out j i HJD.out hik m hm
            rw [HF3.out] at z2
            have HZ2 := Lib.hid z2
            obtain ⟨qy, haty, hiny⟩ := (HN7.out.below HEw.out).at m hmN
            have hk0 : qy.k = 0 := by rw [hiny.k]; exact z1
            have HAY := Lib.hid haty
            have hmi : ¬ (m : Int) < 0 := by omega
            have hmj : ¬ (m : Int) ≥ (N2 : Int) := by omega
            have hmk : (m : Int) < (N2 : Int) := by omega
            have kn : IntKind.i64.wrap ((i : Int) + 1) = ((i + 1 : Nat) : Int) := by have := HDD.out.2.2.1; rw [IntKind.wrap_i64]; omega
            have HK0 := Lib.hid hk0
            clear CI hx hy z1 z2 hm hp64 hk0 haty hiny
            go_wp2_with fail
            refine (Sp.rindex_c HCI.out _).mono ?_
            rintro e' w26 ⟨rfl, hb⟩
            have HB26 := Lib.hid (HW.out.trans (hb.mono HW.out.size))
            obtain ⟨r0, r1⟩ := (HT7.out.below (HEw.out.trans (hb.mono HEw.out.size)) HL7.out).cs
            obtain ⟨q0, q1⟩ := (HG22.out.below (HFw.out.trans (hb.mono HFw.out.size)) HL22.out).cs
            obtain ⟨p0, p1, p2, p3, p4, p5⟩ := (HAY.out.of_block (hb.block _ (block_lt_of_cell HAY.out.cells.1))).cells
            rw [HK0.out] at p0
            have HN26 := Lib.hid ((HN22.out.below HFw.out).below hb)
            clear hb c0
            by_cases hm9 : m < n9
            case neg =>
              have ym : ¬ (m : Int) < (n9 : Int) := by omega
              have ym' : decide ((m : Int) < (n9 : Int)) = false := by simp only [decide_eq_false_iff_not]; omega
              have ym'' : decide (m < n9) = false := by simp only [decide_eq_false_iff_not]; omega
              go_wp2
              go_roundw
              case rel => exact ⟨i + 1, by omega, by go_num, HB26⟩
              case measure => simp [intOf]; omega
            have ym : (m : Int) < (n9 : Int) := by omega
            have ym2 : ¬ (m : Int) ≥ (n9 : Int) := by omega
            obtain ⟨qz, hatz, hinz⟩ := HN26.out.at m hm9
            have hkz : qz.k = 0 := by rw [hinz.k]; exact HZ2.out (by rw [HN22.out.len]; exact hm9)
            obtain ⟨x0, x1, x2, x3, x4, x5⟩ := hatz.cells
            rw [hkz] at x0
            clear hatz hinz hkz
            go_wp2
            go_roundw
            case rel => exact ⟨i + 1, by omega, by go_num, HB26⟩
            case measure => simp [intOf]; omega
      have yk : (k : Int) < (d2 : Int) := by omega
      obtain ⟨gp, hAP, c0⟩ : ∃ gp, AP = some ⟨gp, 0, none⟩ ∧ wr.cell? ⟨gp, k, none⟩ = some (.complex .f64 (Fl.fl (k + 1)) (Fl.fl (f2 / 2 ^ (k + 1)))) := own_cpx HO10.out HW.out k hkd
      subst hAP
      obtain ⟨m, hm⟩ : ∃ m, idx (k + 1) (f2 / 2 ^ (k + 1)) = m := ⟨_, rfl⟩
      have CI := idx_c (Sp.is_step f2 (k + 1) (by have := HDD.out.1; have := HDD.out.2.1; omega) (by have := HDD.out.2.2.1; omega))
      rw [hm] at CI
      obtain ⟨x, hx⟩ : ∃ x, Fl.fl (k + 1) = x := ⟨_, rfl⟩
      obtain ⟨y, hy⟩ : ∃ y, Fl.fl (f2 / 2 ^ (k + 1)) = y := ⟨_, rfl⟩
      rw [hx, hy] at CI c0
      have HCI := Lib.hid CI
      have hmN : m < N2 := by rw [← HN2.out, ← hm]; exact above_lt hkd (by rw [HM2.out]; exact HDD.out.1)
      obtain ⟨e1, e2, e3⟩ := added_above HR.out (leafN nb) k (by rw [HX.out.2.1]; exact hkd) (by rw [HX.out.1, HX.out.2.1, HM2.out]; exact HDD.out.1) m (by rw [HX.out.1]; exact hm)
      rw [HX.out.2.2] at e1 e2 e3
      rw [HX.out.1] at e3
      obtain ⟨qn, hat, hin⟩ := (HN2'.out.below HDw.out).at m hmN
      have HAT := Lib.hid hat; have HIN := Lib.hid hin
      obtain ⟨n2, hn2⟩ : ∃ x, nd ns2 m = x := ⟨_, rfl⟩
      obtain ⟨n1, hn1⟩ : ∃ x, nd ns m = x := ⟨_, rfl⟩
      have hus := un_small HR2.out m
      rw [hn2] at e1 e2 e3 HIN hus
      rw [hn1] at e1 e2 e3
      have HE := Lib.hid (And.intro e1 (And.intro e2 e3)); have HNN := Lib.hid (And.intro hn1 hmN)
      clear CI hx hy e1 e2 e3 hat hin hn2 hn1 hm
      go_wp2_with fail
      refine (Sp.rindex_c HCI.out _).mono ?_
      rintro e' w11 ⟨rfl, hb⟩
      have HB11 := Lib.hid (HW.out.trans (hb.mono HW.out.size)); have HD11 := Lib.hid (HDw.out.trans (hb.mono HDw.out.size)); have HC11 := Lib.hid (HCw.out.trans (hb.mono HCw.out.size)); have HI11 := Lib.hid (HIN.out.below hb)
      have HA11 : Hid (∀ W, Below w11.heap.size w11 W → NdAt W (a5.add (m * 6)) qn) := Lib.hid fun W hb' => HAT.out.of_block ((hb'.block _ (Nat.lt_of_lt_of_le (block_lt_of_cell HAT.out.cells.1) hb.size)).trans (hb.block _ (block_lt_of_cell HAT.out.cells.1)))
      have hun := HI11.out.un.len
      have hu63 : qn.n5 ≤ 100 := by omega
      clear hus
      have hmi : ¬ (m : Int) < 0 := by omega
      have hmj : ¬ (m : Int) ≥ (N2 : Int) := by omega
      have hmk : (m : Int) < (N2 : Int) := by omega
      clear hb c0 HAT HIN
      go_wp2_with fail
      go_loopw [15, 16] (fun b v W => ∃ j : Nat, j ≤ qn.n5 ∧ v = .int .i64 j ∧ b = .bool (decide ((f2 : Int) ∈ n2.un.take j)) ∧ Hid (Below w11.heap.size w11 W)) (fun b v _ => qn.n5 - (intOf v).toNat)
      case atStart => exact ⟨0, by omega, rfl, by simp, Lib.hid (Below.refl _ _)⟩
      case round =>
        obtain ⟨j, hj, rfl, rfl, HV⟩ := hrel
        obtain ⟨s0, s1⟩ := (HTR.out.below (HD11.out.trans (HV.out.mono HD11.out.size)) HLT.out).cs
        obtain ⟨p0, p1, p2, p3, p4, p5⟩ := (HA11.out _ HV.out).cells
        by_cases hjn : j < qn.n5
        case neg =>
          obtain rfl : j = qn.n5 := by omega
          have yj : ¬ (qn.n5 : Int) < (qn.n5 : Int) := by omega
          have hdec : decide ((f2 : Int) ∈ n2.un.take qn.n5) = decide (n1.kind ≠ 0) := by
            rw [List.take_of_length_le (by omega)]
            exact decide_eq_decide.2 HE.out.2.2
          rw [hdec]
          have HBe : Hid (Below w10.heap.size w10 wr) := Lib.hid (HB11.out.trans (HV.out.mono HB11.out.size))
          obtain ⟨t0, t1⟩ := (HG1.out.below (HC11.out.trans (HV.out.mono HC11.out.size)) HL1.out).cs
          have kk : IntKind.i64.wrap ((k : Int) + 1) = ((k + 1 : Nat) : Int) := by have := HDD.out.2.2.1; rw [IntKind.wrap_i64]; omega
          have hq0 : qn.k = n1.kind := by rw [← HE.out.1]; exact HI11.out.k
          rw [hq0] at p0
          clear hdec hq0 hun
          by_cases hmn : m < n
          case neg =>
            have hz : n1.kind = 0 := by rw [← HNN.out.1, nd_ge _ _ (by rw [HN.out.len]; omega)]; rfl
            have ym : ¬ (m : Int) < (n : Int) := by omega
            rw [hz] at p0 ⊢
            rw [show decide ((0 : Int) ≠ 0) = false by simp]
            go_wp2
            go_roundw
            case rel => exact ⟨k + 1, by omega, by go_num, HBe⟩
            case measure => simp [intOf]; omega
          have ym : (m : Int) < (n : Int) := by omega
          have ym2 : ¬ (m : Int) ≥ (n : Int) := by omega
          obtain ⟨ad, rfl⟩ := HN.out.some (by omega)
          obtain ⟨qb, hatb, hinb⟩ := (HN.out.below (HC11.out.trans (HV.out.mono HC11.out.size))).at m hmn
          rw [HNN.out.1] at hinb
          obtain ⟨x0, x1, x2, x3, x4, x5⟩ := hatb.cells
          have hq0 : qb.k = n1.kind := hinb.k
          rw [hq0] at x0
          obtain ⟨T, hT⟩ : ∃ T, Wr.txt n1.ek = T := ⟨_, rfl⟩
          have HTX := Lib.hid hT
          have hek2 := (HI11.out.below HV.out).ek
          rw [HE.out.2.1] at hek2
          have HEb : Hid (Txt Any wr.drew qb.A1 qb.n1 qb.c1 n1.ek) := Lib.hid hinb.ek
          have HEn : Hid (Txt Any wr.drew qn.A1 qn.n1 qn.c1 n1.ek) := Lib.hid hek2
          have HTRd : Hid (TrB d2 (some a5) N2 N2 wr.drew b5) := Lib.hid (HTR.out.below (HD11.out.trans (HV.out.drew.mono HD11.out.size)) HLT.out)
          have HGd : Hid (TrB d (some ad) n c wr.drew w.heap.size) := Lib.hid (HG1.out.below (HC11.out.trans (HV.out.drew.mono HC11.out.size)) HL1.out)
          have HLTd : Hid (b5 < wr.drew.heap.size) := Lib.hid HTRd.out.lt
          have HLGd : Hid (w.heap.size < wr.drew.heap.size) := Lib.hid HGd.out.lt
          have HATb : Hid (∀ W, Below wr.drew.heap.size wr.drew W → NdAt W (ad.add (m * 6)) qb) := Lib.hid fun W hb' => hatb.of_block (hb'.block _ (block_lt_of_cell hatb.cells.1))
          have HATn : Hid (∀ W, Below wr.drew.heap.size wr.drew W → NdAt W (a5.add (m * 6)) qn) := Lib.hid fun W hb' => HA11.out W ((show Below w11.heap.size w11 wr.drew from HV.out.drew).trans (hb'.mono HV.out.size))
          have HBx : Hid (Below w10.heap.size w10 wr.drew) := Lib.hid HBe.out.drew
          have HKN : Hid (qn.k = n1.kind) := Lib.hid (by rw [← HE.out.1]; exact HI11.out.k)
          clear hatb hinb hq0 hT hek2
          by_cases hz : n1.kind = 0
          case pos =>
            rw [hz] at p0 x0 ⊢
            rw [hz] at HKN
            rw [show decide ((0 : Int) ≠ 0) = false by simp]
            go_wp2_with fail
            clear p0 p1 p2 p3 p4 p5 x0 x1 x2 x3 x4 x5 s0 s1 t0 t1
            try simp only [Act.put]
            refine Wr.region_calm ?_
            refine wp_region_any (by kernel_rfl) ?_
            change wpAny _ _ _ _ _ _ _ (World.drew wr)
            generalize World.drew wr = wdx at *
            have HSwdx : Hid (Below wdx.heap.size wdx wdx) := Lib.hid (Below.refl _ _)
            refine wpAny_of_held (S := fun W => Below wdx.heap.size wdx W) _ _ _ _ ?_
            refine wpAnyH_take (i := 0) (v := ?ve41) rfl (by kernel_rfl) (by kernel_rfl) (by kernel_rfl) (fun _ _ _ h => h) (Or.inl ⟨by rfl, ?ye41⟩) HSwdx.out ?re41
            case ye41 => (intro w' hSw; clear hSw; go_simp; try with_reducible rfl)
            simp only [List.getElem_toArray, List.getElem_cons_succ, List.getElem_cons_zero, Act.put, List.setIfInBounds_toArray, List.set_cons_zero, List.set_cons_succ]
            refine wpAnyH_take (i := 1) (v := ?ve42) rfl (by kernel_rfl) (by kernel_rfl) (by kernel_rfl) (fun _ _ _ h => h) (Or.inl ⟨by rfl, ?ye42⟩) HSwdx.out ?re42
            case ye42 => (intro w' hSw; have hq_wdx : Below wdx.heap.size wdx w' := hSw; have hq := hq_wdx; obtain ⟨s0, s1⟩ := (HTRd.out.below hq HLTd.out).cs; obtain ⟨t0, t1⟩ := (HGd.out.below hq HLGd.out).cs; obtain ⟨p0, p1, p2, p3, p4, p5⟩ := (HATn.out _ hq).cells; obtain ⟨x0, x1, x2, x3, x4, x5⟩ := (HATb.out _ hq).cells; clear hSw; try clear hq hq_wdx; go_simp; try with_reducible rfl)
            simp only [List.getElem_toArray, List.getElem_cons_succ, List.getElem_cons_zero, Act.put, List.setIfInBounds_toArray, List.set_cons_zero, List.set_cons_succ]
            refine wpAnyH_take (i := 2) (v := ?ve43) rfl (by kernel_rfl) (by kernel_rfl) (by kernel_rfl) (fun _ _ _ h => h) (Or.inl ⟨by rfl, ?ye43⟩) HSwdx.out ?re43
            case ye43 => (intro w' hSw; clear hSw; go_simp; try with_reducible rfl)
            simp only [List.getElem_toArray, List.getElem_cons_succ, List.getElem_cons_zero, Act.put, List.setIfInBounds_toArray, List.set_cons_zero, List.set_cons_succ]
            refine wpAnyH_take (i := 3) (v := ?ve44) rfl (by kernel_rfl) (by kernel_rfl) (by kernel_rfl) (fun _ _ _ h => h) (Or.inl ⟨by rfl, ?ye44⟩) HSwdx.out ?re44
            case ye44 => (intro w' hSw; clear hSw; go_simp; try with_reducible rfl)
            simp only [List.getElem_toArray, List.getElem_cons_succ, List.getElem_cons_zero, Act.put, List.setIfInBounds_toArray, List.set_cons_zero, List.set_cons_succ]
            refine wpAnyH_take (i := 4) (v := ?ve45) rfl (by kernel_rfl) (by kernel_rfl) (by kernel_rfl) (fun _ _ _ h => h) (Or.inl ⟨by rfl, ?ye45⟩) HSwdx.out ?re45
            case ye45 => (intro w' hSw; clear hSw; go_simp; try with_reducible rfl)
            simp only [List.getElem_toArray, List.getElem_cons_succ, List.getElem_cons_zero, Act.put, List.setIfInBounds_toArray, List.set_cons_zero, List.set_cons_succ]
            refine wpAnyH_take (i := 5) (v := ?ve46) rfl (by kernel_rfl) (by kernel_rfl) (by kernel_rfl) (fun _ _ _ h => h) (Or.inl ⟨by rfl, ?ye46⟩) HSwdx.out ?re46
            case ye46 => (intro w' hSw; have hq_wdx : Below wdx.heap.size wdx w' := hSw; have hq := hq_wdx; obtain ⟨s0, s1⟩ := (HTRd.out.below hq HLTd.out).cs; obtain ⟨t0, t1⟩ := (HGd.out.below hq HLGd.out).cs; obtain ⟨p0, p1, p2, p3, p4, p5⟩ := (HATn.out _ hq).cells; obtain ⟨x0, x1, x2, x3, x4, x5⟩ := (HATb.out _ hq).cells; clear hSw; try clear hq hq_wdx; go_simp; try with_reducible rfl)
            simp only [List.getElem_toArray, List.getElem_cons_succ, List.getElem_cons_zero, Act.put, List.setIfInBounds_toArray, List.set_cons_zero, List.set_cons_succ]
            refine wpAnyH_take (i := 6) (v := ?ve47) rfl (by kernel_rfl) (by kernel_rfl) (by kernel_rfl) (fun _ _ _ h => h) (Or.inl ⟨by rfl, ?ye47⟩) HSwdx.out ?re47
            case ye47 => (intro w' hSw; have hq_wdx : Below wdx.heap.size wdx w' := hSw; have hq := hq_wdx; have cc := (HEb.out.below hq).conv; rw [HTX.out] at cc; clear hSw; try clear hq hq_wdx; go_simp; try with_reducible rfl)
            simp only [List.getElem_toArray, List.getElem_cons_succ, List.getElem_cons_zero, Act.put, List.setIfInBounds_toArray, List.set_cons_zero, List.set_cons_succ]
            refine wpAnyH_take (i := 7) (v := ?ve48) rfl (by kernel_rfl) (by kernel_rfl) (by kernel_rfl) (fun _ _ _ h => h) (Or.inl ⟨by rfl, ?ye48⟩) HSwdx.out ?re48
            case ye48 => (intro w' hSw; clear hSw; go_simp; try with_reducible rfl)
            simp only [List.getElem_toArray, List.getElem_cons_succ, List.getElem_cons_zero, Act.put, List.setIfInBounds_toArray, List.set_cons_zero, List.set_cons_succ]
            refine wpAnyH_take (i := 8) (v := ?ve49) rfl (by kernel_rfl) (by kernel_rfl) (by kernel_rfl) (fun _ _ _ h => h) (Or.inl ⟨by rfl, ?ye49⟩) HSwdx.out ?re49
            case ye49 => (intro w' hSw; have hq_wdx : Below wdx.heap.size wdx w' := hSw; have hq := hq_wdx; obtain ⟨s0, s1⟩ := (HTRd.out.below hq HLTd.out).cs; obtain ⟨t0, t1⟩ := (HGd.out.below hq HLGd.out).cs; obtain ⟨p0, p1, p2, p3, p4, p5⟩ := (HATn.out _ hq).cells; obtain ⟨x0, x1, x2, x3, x4, x5⟩ := (HATb.out _ hq).cells; clear hSw; try clear hq hq_wdx; go_simp; try with_reducible rfl)
            simp only [List.getElem_toArray, List.getElem_cons_succ, List.getElem_cons_zero, Act.put, List.setIfInBounds_toArray, List.set_cons_zero, List.set_cons_succ]
            refine wpAnyH_take (i := 9) (v := ?ve50) rfl (by kernel_rfl) (by kernel_rfl) (by kernel_rfl) (fun _ _ _ h => h) (Or.inl ⟨by rfl, ?ye50⟩) HSwdx.out ?re50
            case ye50 => (intro w' hSw; clear hSw; go_simp; try with_reducible rfl)
            simp only [List.getElem_toArray, List.getElem_cons_succ, List.getElem_cons_zero, Act.put, List.setIfInBounds_toArray, List.set_cons_zero, List.set_cons_succ]
            refine wpAnyH_take (i := 10) (v := ?ve51) rfl (by kernel_rfl) (by kernel_rfl) (by kernel_rfl) (fun _ _ _ h => h) (Or.inl ⟨by rfl, ?ye51⟩) HSwdx.out ?re51
            case ye51 => (intro w' hSw; clear hSw; go_simp; try with_reducible rfl)
            simp only [List.getElem_toArray, List.getElem_cons_succ, List.getElem_cons_zero, Act.put, List.setIfInBounds_toArray, List.set_cons_zero, List.set_cons_succ]
            refine wpAnyH_take (i := 11) (v := ?ve52) rfl (by kernel_rfl) (by kernel_rfl) (by kernel_rfl) (fun _ _ _ h => h) (Or.inl ⟨by rfl, ?ye52⟩) HSwdx.out ?re52
            case ye52 => (intro w' hSw; clear hSw; go_simp; try with_reducible rfl)
            simp only [List.getElem_toArray, List.getElem_cons_succ, List.getElem_cons_zero, Act.put, List.setIfInBounds_toArray, List.set_cons_zero, List.set_cons_succ]
            refine wpAnyH_take (i := 12) (v := ?ve53) rfl (by kernel_rfl) (by kernel_rfl) (by kernel_rfl) (fun _ _ _ h => h) (Or.inl ⟨by rfl, ?ye53⟩) HSwdx.out ?re53
            case ye53 => (intro w' hSw; have hq_wdx : Below wdx.heap.size wdx w' := hSw; have hq := hq_wdx; obtain ⟨s0, s1⟩ := (HTRd.out.below hq HLTd.out).cs; obtain ⟨t0, t1⟩ := (HGd.out.below hq HLGd.out).cs; obtain ⟨p0, p1, p2, p3, p4, p5⟩ := (HATn.out _ hq).cells; obtain ⟨x0, x1, x2, x3, x4, x5⟩ := (HATb.out _ hq).cells; clear hSw; try clear hq hq_wdx; go_simp; try with_reducible rfl)
            simp only [List.getElem_toArray, List.getElem_cons_succ, List.getElem_cons_zero, Act.put, List.setIfInBounds_toArray, List.set_cons_zero, List.set_cons_succ]
            refine wpAnyH_take (i := 13) (v := ?ve54) rfl (by kernel_rfl) (by kernel_rfl) (by kernel_rfl) (fun _ _ _ h => h) (Or.inl ⟨by rfl, ?ye54⟩) HSwdx.out ?re54
            case ye54 => (intro w' hSw; have hq_wdx : Below wdx.heap.size wdx w' := hSw; have hq := hq_wdx; have cc := (HEn.out.below hq).conv; rw [HTX.out] at cc; clear hSw; try clear hq hq_wdx; go_simp; try with_reducible rfl)
            simp only [List.getElem_toArray, List.getElem_cons_succ, List.getElem_cons_zero, Act.put, List.setIfInBounds_toArray, List.set_cons_zero, List.set_cons_succ]
            refine wpAnyH_take (i := 14) (v := ?ve55) rfl (by kernel_rfl) (by kernel_rfl) (by kernel_rfl) (fun _ _ _ h => h) (Or.inl ⟨by rfl, ?ye55⟩) HSwdx.out ?re55
            case ye55 => (intro w' hSw; clear hSw; go_simp; try with_reducible rfl)
            simp only [List.getElem_toArray, List.getElem_cons_succ, List.getElem_cons_zero, Act.put, List.setIfInBounds_toArray, List.set_cons_zero, List.set_cons_succ]
            refine wpAnyH_done (by kernel_rfl) ?_ _
            change Exit.then _ _ Exit.normal _ _
            obtain ⟨s0, s1⟩ := HTRd.out.cs
            obtain ⟨p0, p1, p2, p3, p4, p5⟩ := (HATn.out _ (Below.refl _ _)).cells
            rw [HKN.out] at p0
            go_wp2
            go_roundw
            case rel => exact ⟨k + 1, by omega, by go_num, HBx⟩
            case measure => simp [intOf]; omega
          rw [decide_eq_true hz]
          obtain ⟨kd, hkd'⟩ : ∃ x, n1.kind = x := ⟨_, rfl⟩
          rw [hkd'] at p0 x0 hz HKN
          have ykd : (kd != 0) = true := by rw [bne_iff_ne]; exact hz
          have ykk : (kd != kd) = false := by simp
          clear hkd'
          go_wp2_with fail
          clear p0 p1 p2 p3 p4 p5 x0 x1 x2 x3 x4 x5 s0 s1 t0 t1
          try simp only [Act.put]
          refine Wr.region_calm ?_
          refine wp_region_any (by kernel_rfl) ?_
          change wpAny _ _ _ _ _ _ _ (World.drew wr)
          generalize World.drew wr = wdx at *
          have HSwdx : Hid (Below wdx.heap.size wdx wdx) := Lib.hid (Below.refl _ _)
          refine wpAny_of_held (S := fun W => Below wdx.heap.size wdx W) _ _ _ _ ?_
          refine wpAnyH_take (i := 0) (v := ?ve56) rfl (by kernel_rfl) (by kernel_rfl) (by kernel_rfl) (fun _ _ _ h => h) (Or.inl ⟨by rfl, ?ye56⟩) HSwdx.out ?re56
          case ye56 => (intro w' hSw; clear hSw; go_simp; try with_reducible rfl)
          simp only [List.getElem_toArray, List.getElem_cons_succ, List.getElem_cons_zero, Act.put, List.setIfInBounds_toArray, List.set_cons_zero, List.set_cons_succ]
          refine wpAnyH_take (i := 1) (v := ?ve57) rfl (by kernel_rfl) (by kernel_rfl) (by kernel_rfl) (fun _ _ _ h => h) (Or.inl ⟨by rfl, ?ye57⟩) HSwdx.out ?re57
          case ye57 => (intro w' hSw; have hq_wdx : Below wdx.heap.size wdx w' := hSw; have hq := hq_wdx; obtain ⟨s0, s1⟩ := (HTRd.out.below hq HLTd.out).cs; obtain ⟨t0, t1⟩ := (HGd.out.below hq HLGd.out).cs; obtain ⟨p0, p1, p2, p3, p4, p5⟩ := (HATn.out _ hq).cells; obtain ⟨x0, x1, x2, x3, x4, x5⟩ := (HATb.out _ hq).cells; clear hSw; try clear hq hq_wdx; go_simp; try with_reducible rfl)
          simp only [List.getElem_toArray, List.getElem_cons_succ, List.getElem_cons_zero, Act.put, List.setIfInBounds_toArray, List.set_cons_zero, List.set_cons_succ]
          refine wpAnyH_take (i := 2) (v := ?ve58) rfl (by kernel_rfl) (by kernel_rfl) (by kernel_rfl) (fun _ _ _ h => h) (Or.inl ⟨by rfl, ?ye58⟩) HSwdx.out ?re58
          case ye58 => (intro w' hSw; clear hSw; go_simp; try with_reducible rfl)
          simp only [List.getElem_toArray, List.getElem_cons_succ, List.getElem_cons_zero, Act.put, List.setIfInBounds_toArray, List.set_cons_zero, List.set_cons_succ]
          refine wpAnyH_take (i := 3) (v := ?ve59) rfl (by kernel_rfl) (by kernel_rfl) (by kernel_rfl) (fun _ _ _ h => h) (Or.inl ⟨by rfl, ?ye59⟩) HSwdx.out ?re59
          case ye59 => (intro w' hSw; clear hSw; go_simp; try with_reducible rfl)
          simp only [List.getElem_toArray, List.getElem_cons_succ, List.getElem_cons_zero, Act.put, List.setIfInBounds_toArray, List.set_cons_zero, List.set_cons_succ]
          refine wpAnyH_take (i := 4) (v := ?ve60) rfl (by kernel_rfl) (by kernel_rfl) (by kernel_rfl) (fun _ _ _ h => h) (Or.inl ⟨by rfl, ?ye60⟩) HSwdx.out ?re60
          case ye60 => (intro w' hSw; clear hSw; go_simp; try with_reducible rfl)
          simp only [List.getElem_toArray, List.getElem_cons_succ, List.getElem_cons_zero, Act.put, List.setIfInBounds_toArray, List.set_cons_zero, List.set_cons_succ]
          refine wpAnyH_take (i := 5) (v := ?ve61) rfl (by kernel_rfl) (by kernel_rfl) (by kernel_rfl) (fun _ _ _ h => h) (Or.inl ⟨by rfl, ?ye61⟩) HSwdx.out ?re61
          case ye61 => (intro w' hSw; have hq_wdx : Below wdx.heap.size wdx w' := hSw; have hq := hq_wdx; obtain ⟨s0, s1⟩ := (HTRd.out.below hq HLTd.out).cs; obtain ⟨t0, t1⟩ := (HGd.out.below hq HLGd.out).cs; obtain ⟨p0, p1, p2, p3, p4, p5⟩ := (HATn.out _ hq).cells; obtain ⟨x0, x1, x2, x3, x4, x5⟩ := (HATb.out _ hq).cells; clear hSw; try clear hq hq_wdx; go_simp; try with_reducible rfl)
          simp only [List.getElem_toArray, List.getElem_cons_succ, List.getElem_cons_zero, Act.put, List.setIfInBounds_toArray, List.set_cons_zero, List.set_cons_succ]
          refine wpAnyH_take (i := 6) (v := ?ve62) rfl (by kernel_rfl) (by kernel_rfl) (by kernel_rfl) (fun _ _ _ h => h) (Or.inl ⟨by rfl, ?ye62⟩) HSwdx.out ?re62
          case ye62 => (intro w' hSw; have hq_wdx : Below wdx.heap.size wdx w' := hSw; have hq := hq_wdx; have cc := (HEb.out.below hq).conv; rw [HTX.out] at cc; clear hSw; try clear hq hq_wdx; go_simp; try with_reducible rfl)
          simp only [List.getElem_toArray, List.getElem_cons_succ, List.getElem_cons_zero, Act.put, List.setIfInBounds_toArray, List.set_cons_zero, List.set_cons_succ]
          refine wpAnyH_take (i := 7) (v := ?ve63) rfl (by kernel_rfl) (by kernel_rfl) (by kernel_rfl) (fun _ _ _ h => h) (Or.inl ⟨by rfl, ?ye63⟩) HSwdx.out ?re63
          case ye63 => (intro w' hSw; clear hSw; go_simp; try with_reducible rfl)
          simp only [List.getElem_toArray, List.getElem_cons_succ, List.getElem_cons_zero, Act.put, List.setIfInBounds_toArray, List.set_cons_zero, List.set_cons_succ]
          refine wpAnyH_take (i := 8) (v := ?ve64) rfl (by kernel_rfl) (by kernel_rfl) (by kernel_rfl) (fun _ _ _ h => h) (Or.inl ⟨by rfl, ?ye64⟩) HSwdx.out ?re64
          case ye64 => (intro w' hSw; have hq_wdx : Below wdx.heap.size wdx w' := hSw; have hq := hq_wdx; obtain ⟨s0, s1⟩ := (HTRd.out.below hq HLTd.out).cs; obtain ⟨t0, t1⟩ := (HGd.out.below hq HLGd.out).cs; obtain ⟨p0, p1, p2, p3, p4, p5⟩ := (HATn.out _ hq).cells; obtain ⟨x0, x1, x2, x3, x4, x5⟩ := (HATb.out _ hq).cells; clear hSw; try clear hq hq_wdx; go_simp; try with_reducible rfl)
          simp only [List.getElem_toArray, List.getElem_cons_succ, List.getElem_cons_zero, Act.put, List.setIfInBounds_toArray, List.set_cons_zero, List.set_cons_succ]
          refine wpAnyH_take (i := 9) (v := ?ve65) rfl (by kernel_rfl) (by kernel_rfl) (by kernel_rfl) (fun _ _ _ h => h) (Or.inl ⟨by rfl, ?ye65⟩) HSwdx.out ?re65
          case ye65 => (intro w' hSw; clear hSw; go_simp; try with_reducible rfl)
          simp only [List.getElem_toArray, List.getElem_cons_succ, List.getElem_cons_zero, Act.put, List.setIfInBounds_toArray, List.set_cons_zero, List.set_cons_succ]
          refine wpAnyH_take (i := 10) (v := ?ve66) rfl (by kernel_rfl) (by kernel_rfl) (by kernel_rfl) (fun _ _ _ h => h) (Or.inl ⟨by rfl, ?ye66⟩) HSwdx.out ?re66
          case ye66 => (intro w' hSw; clear hSw; go_simp; try with_reducible rfl)
          simp only [List.getElem_toArray, List.getElem_cons_succ, List.getElem_cons_zero, Act.put, List.setIfInBounds_toArray, List.set_cons_zero, List.set_cons_succ]
          refine wpAnyH_take (i := 11) (v := ?ve67) rfl (by kernel_rfl) (by kernel_rfl) (by kernel_rfl) (fun _ _ _ h => h) (Or.inl ⟨by rfl, ?ye67⟩) HSwdx.out ?re67
          case ye67 => (intro w' hSw; clear hSw; go_simp; try with_reducible rfl)
          simp only [List.getElem_toArray, List.getElem_cons_succ, List.getElem_cons_zero, Act.put, List.setIfInBounds_toArray, List.set_cons_zero, List.set_cons_succ]
          refine wpAnyH_take (i := 12) (v := ?ve68) rfl (by kernel_rfl) (by kernel_rfl) (by kernel_rfl) (fun _ _ _ h => h) (Or.inl ⟨by rfl, ?ye68⟩) HSwdx.out ?re68
          case ye68 => (intro w' hSw; have hq_wdx : Below wdx.heap.size wdx w' := hSw; have hq := hq_wdx; obtain ⟨s0, s1⟩ := (HTRd.out.below hq HLTd.out).cs; obtain ⟨t0, t1⟩ := (HGd.out.below hq HLGd.out).cs; obtain ⟨p0, p1, p2, p3, p4, p5⟩ := (HATn.out _ hq).cells; obtain ⟨x0, x1, x2, x3, x4, x5⟩ := (HATb.out _ hq).cells; clear hSw; try clear hq hq_wdx; go_simp; try with_reducible rfl)
          simp only [List.getElem_toArray, List.getElem_cons_succ, List.getElem_cons_zero, Act.put, List.setIfInBounds_toArray, List.set_cons_zero, List.set_cons_succ]
          refine wpAnyH_take (i := 13) (v := ?ve69) rfl (by kernel_rfl) (by kernel_rfl) (by kernel_rfl) (fun _ _ _ h => h) (Or.inl ⟨by rfl, ?ye69⟩) HSwdx.out ?re69
          case ye69 => (intro w' hSw; have hq_wdx : Below wdx.heap.size wdx w' := hSw; have hq := hq_wdx; have cc := (HEn.out.below hq).conv; rw [HTX.out] at cc; clear hSw; try clear hq hq_wdx; go_simp; try with_reducible rfl)
          simp only [List.getElem_toArray, List.getElem_cons_succ, List.getElem_cons_zero, Act.put, List.setIfInBounds_toArray, List.set_cons_zero, List.set_cons_succ]
          refine wpAnyH_take (i := 14) (v := ?ve70) rfl (by kernel_rfl) (by kernel_rfl) (by kernel_rfl) (fun _ _ _ h => h) (Or.inl ⟨by rfl, ?ye70⟩) HSwdx.out ?re70
          case ye70 => (intro w' hSw; clear hSw; go_simp; try with_reducible rfl)
          simp only [List.getElem_toArray, List.getElem_cons_succ, List.getElem_cons_zero, Act.put, List.setIfInBounds_toArray, List.set_cons_zero, List.set_cons_succ]
          refine wpAnyH_done (by kernel_rfl) ?_ _
          change Exit.then _ _ Exit.normal _ _
          obtain ⟨s0, s1⟩ := HTRd.out.cs
          obtain ⟨p0, p1, p2, p3, p4, p5⟩ := (HATn.out _ (Below.refl _ _)).cells
          rw [HKN.out] at p0
          go_wp2
          go_roundw
          case rel => exact ⟨k + 1, by omega, by go_num, HBx⟩
          case measure => simp [intOf]; omega
        have yj : (j : Int) < (qn.n5 : Int) := by omega
        have hts := take_mem n2.un j (f2 : Int) (by rw [hun]; exact hjn)
        obtain ⟨ad5, h5⟩ := HI11.out.un.some (by omega)
        have hc := (HI11.out.un.below HV.out)
        rw [h5] at hc p5
        have c1 := hc.cell j hjn
        have kn : IntKind.i64.wrap ((j : Int) + 1) = ((j + 1 : Nat) : Int) := by rw [IntKind.wrap_i64]; omega
        have k1 : ¬ (j : Int) < 0 := by omega
        have k2 : ¬ (j : Int) ≥ (qn.n5 : Int) := by omega
        clear hc h5
        by_cases hb : (f2 : Int) ∈ n2.un.take j
        case pos =>
          have hb1 : (f2 : Int) ∈ n2.un.take (j + 1) := hts.2 (.inl hb)
          rw [decide_eq_true hb]
          go_wp2
          go_roundw
          case rel => exact ⟨j + 1, by omega, by go_num, by rw [decide_eq_true hb1], HV⟩
          case measure => simp [intOf]; omega
        rw [decide_eq_false hb]
        by_cases he : gi n2.un j = (f2 : Int)
        case pos =>
          have hb1 : (f2 : Int) ∈ n2.un.take (j + 1) := hts.2 (.inr he)
          rw [he] at c1
          go_wp2
          go_roundw
          case rel => exact ⟨j + 1, by omega, by go_num, by rw [decide_eq_true hb1], HV⟩
          case measure => simp [intOf]; omega
        have hb1 : ¬ (f2 : Int) ∈ n2.un.take (j + 1) := fun h => (hts.1 h).elim hb he
        have ye : (gi n2.un j == (f2 : Int)) = false := by rw [beq_eq_false_iff_ne]; exact he
        go_wp2
        go_roundw
        case rel => exact ⟨j + 1, by omega, by go_num, by rw [decide_eq_false hb1], HV⟩
        case measure => simp [intOf]; omega
end Go.Proofs.YtakglldffpnlaaaGreatDoor.Rt
