/- Plain: a leaf added, and removed again; a leaf renewed. RtreeAdded: the walk. Written by tools/mk_rtadded.py. -/
import Derived.Test.YtophnoaneoeiaaaGreatDoorRtWalkX
import Derived.Test.YtophnoaneoeiaaaGreatDoorRtM2
import Derived.Test.YtophnoaneoeiaaaGreatDoorRtLawA
import Derived.Test.YtophnoaneoeiaaaGreatDoorRtRefT
import Derived.Test.YtophnoaneoeiaaaGreatDoorRtSame
import Derived.Test.YtophnoaneoeiaaaGreatDoorRtWalkS
namespace Go.Proofs.YtophnoaneoeiaaaGreatDoor.Rt
set_option linter.all false

theorem there_nat {ns : List Nd} {d : Nat} {j : Nat} : There ns d (j : Int) ↔ j < 2 ^ d ∧ (nd ns (2 * j)).kind ≠ 0 := by
  unfold There
  rw [pow_eq, Int.toNat_natCast]
  constructor
  · rintro ⟨_, h1, h2⟩; exact ⟨by omega, h2⟩
  · rintro ⟨h1, h2⟩; exact ⟨by omega, by omega, h2⟩
theorem rem_right {ns : List Nd} {d j : Nat} (h : Right ns d) (hj : j < 2 ^ d) : Right (remF ns d j) (remD ns d j) := cut_right (ren_right h hj (.inl rfl))
/-- what is removed again leaves the leaves that were -/
theorem added_leaves {ns : List Nd} {d : Nat} (h : Right ns d) {leaf : Nd} (hf : LeafR leaf) (h6 : addD ns d ≤ 6) : leavesF (remF (addF ns d leaf) (addD ns d) (firstB ns d)) (remD (addF ns d leaf) (addD ns d) (firstB ns d)) = leavesF ns d := by
  have hr := add_right h hf h6
  obtain ⟨a1, a2, a3⟩ := addD_le (ns := ns) (d := d)
  unfold remF remD
  rw [cut_leaves (ren_right hr a3 (.inl rfl)), ← leavesF_up h a1]
  refine leavesTo_congr _ fun j hj => ?_
  rw [ren_leaf hr (firstB ns d) blank a3 j hj]
  by_cases e : j = firstB ns d
  · subst e
    rw [if_pos rfl]
    exact ⟨fun _ => first_blank h, fun _ => rfl⟩
  · rw [if_neg e, addF_leaf h leaf j hj, if_neg e]
theorem added_same {ns : List Nd} {d : Nat} (h : Right ns d) {leaf : Nd} (hf : LeafR leaf) (h6 : addD ns d ≤ 6) (j : Nat) (hj : There ns d (j : Int)) :
    j ≠ firstB ns d ∧ 2 * j < (addF ns d leaf).length ∧ 2 * j < ns.length ∧ 2 * j < (remF (addF ns d leaf) (addD ns d) (firstB ns d)).length ∧ nd (addF ns d leaf) (2 * j) = nd ns (2 * j) ∧ nd (remF (addF ns d leaf) (addD ns d) (firstB ns d)) (2 * j) = nd ns (2 * j) := by
  have hr := add_right h hf h6
  obtain ⟨a1, a2, a3⟩ := addD_le (ns := ns) (d := d)
  have hj' := there_nat.1 hj
  have hne : j ≠ firstB ns d := fun e => hj'.2 (by rw [e]; exact first_blank h)
  have hjd : j < 2 ^ addD ns d := Nat.lt_of_lt_of_le hj'.1 (Nat.pow_le_pow_right (by decide) a1)
  have e1 : 2 ^ (addD ns d + 1) = 2 * 2 ^ addD ns d := by rw [Nat.pow_succ]; omega
  have e2 : 2 ^ (d + 1) = 2 * 2 ^ d := by rw [Nat.pow_succ]; omega
  have hthere : There (remF (addF ns d leaf) (addD ns d) (firstB ns d)) (remD (addF ns d leaf) (addD ns d) (firstB ns d)) (j : Int) := by
    rw [← mem_leavesF, added_leaves h hf h6, mem_leavesF]; exact hj
  have hrr := rem_right hr a3
  have hlt : 2 * j < (remF (addF ns d leaf) (addD ns d) (firstB ns d)).length := by
    have := (there_nat.1 hthere).1
    rw [hrr.len, Nat.pow_succ]; omega
  have hnd : nd (addF ns d leaf) (2 * j) = nd ns (2 * j) := by rw [addF_leaf h leaf j hjd, if_neg hne]
  refine ⟨hne, by rw [addF_len h]; omega, by rw [h.len]; have := hj'.1; omega, hlt, hnd, ?_⟩
  unfold remF at hlt ⊢
  rw [cut_nd _ _ _ hlt, ren_leaf hr _ _ a3 j hjd, if_neg hne, hnd]
theorem renew_leaves {ns : List Nd} {d : Nat} (h : Right ns d) {leaf : Nd} (hf : LeafR leaf) (j : Nat) (hj : There ns d (j : Int)) : leavesF (renF ns d j leaf) d = leavesF ns d := by
  have hj' := there_nat.1 hj
  unfold leavesF
  refine leavesTo_congr _ fun i hi => ?_
  rw [ren_leaf h j leaf hj'.1 i hi]
  by_cases e : i = j
  · subst e
    rw [if_pos rfl]
    exact ⟨fun h => absurd h hf.nb, fun h => absurd h hj'.2⟩
  · rw [if_neg e]
theorem leavesTo_full {ns : List Nd} : ∀ k, (∀ j, j < k → (nd ns (2 * j)).kind ≠ 0) → (leavesTo ns k).length = k
  | 0, _ => rfl
  | k + 1, h => by rw [leavesTo, List.length_append, leavesTo_full k fun j hj => h j (by omega), if_neg (h k (by omega))]; rfl
theorem many_leaves {ns : List Nd} {d : Nat} (h : Right ns d) (h6 : ¬ addD ns d ≤ 6) : addD ns d = 7 ∧ (leavesF ns d).length = 64 := by
  have hd := h.deep
  obtain ⟨a1, a2, a3⟩ := addD_le (ns := ns) (d := d)
  obtain rfl : d = 6 := by omega
  have h7 : addD ns 6 = 7 := by omega
  refine ⟨h7, ?_⟩
  obtain ⟨b1, b2, b3⟩ := firstB_is ns 6
  have hf : firstB ns 6 = 2 ^ 6 := by
    unfold addD at h7
    split at h7
    · assumption
    · omega
  unfold leavesF
  exact leavesTo_full _ fun j hj => b2 j (by omega)
end Go.Proofs.YtophnoaneoeiaaaGreatDoor.Rt

namespace Go.Proofs.YtophnoaneoeiaaaGreatDoor.Rt
set_option linter.all false
set_option pp.maxSteps 200000
set_option pp.deepTerms true
open Go.RowKit
open Wr (Txt Any New)

set_option maxHeartbeats 8000000 in
set_option maxRecDepth 100000 in
theorem rtreeAdded_walk (D : Int) (A : Option Addr) (n c : Nat) (ns : List Nd) (nb ib : Int) (w : World) (hT : Tabs w) (hN : Nodes Any Any w A n c ns) (v1 : (Lit.int .u8 nb).wf = true) (v2 : (Lit.int .u8 ib).wf = true) :
    Calls Tryz.prog 6 #[.agg #[.int .i64 D, .slice A n c], .int .u8 nb, .int .u8 ib] w fun x w' => x = .returned (.bool true) ∧ Below w.heap.size w w' := by
  obtain ⟨nb, rfl, hnb⟩ : ∃ k : Nat, nb = k ∧ k < 256 := by
    simp [Lit.wf, IntKind.min, IntKind.max, IntKind.bits, IntKind.signed] at v1
    exact ⟨nb.toNat, by omega, by omega⟩
  obtain ⟨ib, rfl, hib⟩ : ∃ k : Nat, ib = k ∧ k < 256 := by
    simp [Lit.wf, IntKind.min, IntKind.max, IntKind.bits, IntKind.signed] at v2
    exact ⟨ib.toNat, by omega, by omega⟩
  obtain ⟨W0, hW0, g1, hB0⟩ := one_new w D A n c
  have B0 := Lib.hid hB0
  have HN0 := Lib.hid hN; have HN := Lib.hid (hN.below hB0); have HT := Lib.hid (hT.below hB0)
  have HG1 := Lib.hid g1; have HL1 := Lib.hid g1.lt
  clear hN hT g1 hB0 v1 v2
  go_enter Tryz.func6, Tryz.ntmps6
  go_wp2_with fail
  refine (head_true _ HT.out).mono ?_
  rintro e' w1 ⟨rfl, hb⟩
  have HC1 := Lib.hid hb
  clear hb
  obtain ⟨s0, s1⟩ := (HG1.out.below HC1.out HL1.out).cs
  go_wp2_with fail
  refine (great_any D A n c ns _ (HN.out.below HC1.out)).mono ?_
  rintro e' w2 ⟨⟨bg, rfl⟩, hb⟩
  have HC2 := Lib.hid (HC1.out.trans (hb.mono HC1.out.size))
  clear hb s0 s1
  obtain ⟨s0, s1⟩ := (HG1.out.below HC2.out HL1.out).cs
  cases bg
  case true =>
    go_wp2
    go_ret
    exact ⟨rfl, B0.out.trans (HC2.out.mono B0.out.size)⟩
  by_cases hr : RightT D ns
  case neg =>
    go_wp2_with fail
    refine (refRight_is D A n c ns false _ (HN.out.below HC2.out) (by simp [hr])).mono ?_
    rintro e' w3 ⟨rfl, hb⟩
    have HC3 := Lib.hid (HC2.out.trans (hb.mono HC2.out.size))
    clear hb s0 s1
    go_wp2
    go_ret
    exact ⟨rfl, B0.out.trans (HC3.out.mono B0.out.size)⟩
  obtain ⟨d, rfl, hR⟩ := hr
  go_wp2_with fail
  refine (refRight_is d A n c ns true _ (HN.out.below HC2.out) (by simp; exact ⟨d, rfl, hR⟩)).mono ?_
  rintro e' w3 ⟨rfl, hb⟩
  have HC3 := Lib.hid (HC2.out.trans (hb.mono HC2.out.size)); have HR := Lib.hid hR
  clear hb s0 s1 hR
  obtain ⟨s0, s1⟩ := (HG1.out.below HC3.out HL1.out).cs
  go_wp2_with fail
  refine (leaves_any d A n c ns _ (HN.out.below HC3.out) (HT.out.below HC3.out).sp).mono ?_
  rw [leavesT_yes HR.out]
  rintro e' w4 ⟨AL, nl, cl, rfl, hX, hb⟩
  have HC4 := Lib.hid (HC3.out.trans (hb.mono HC3.out.size)); have HLV := Lib.hid hX.any
  clear hb hX s0 s1
  obtain ⟨f2, hf2⟩ : ∃ x, firstB ns d = x := ⟨_, rfl⟩
  obtain ⟨d2, hd2⟩ : ∃ x, addD ns d = x := ⟨_, rfl⟩
  obtain ⟨ns2, hns2⟩ : ∃ x, addF ns d (leafN nb) = x := ⟨_, rfl⟩
  obtain ⟨N2, hN2⟩ : ∃ x, 2 ^ (d2 + 1) - 1 = x := ⟨_, rfl⟩
  have HX := Lib.hid (And.intro hf2 (And.intro hd2 hns2)); have HN2 := Lib.hid hN2
  have HWd : Hid (Below W0.heap.size W0 w4.drew) := Lib.hid HC4.out.drew
  have HWZ : Hid (w.heap.size ≤ w4.drew.heap.size) := Lib.hid (Nat.le_trans B0.out.size HWd.out.size)
  clear hf2 hd2 hns2 hN2
  by_cases h6 : d2 ≤ 6
  case neg =>
    obtain ⟨m1, m2⟩ := many_leaves HR.out (by rw [HX.out.2.1]; exact h6)
    have HM7 := Lib.hid m1
    have hnl := HLV.out.len
    obtain rfl : nl = 64 := by omega
    clear m1 m2 hnl h6
    go_wp2_with fail
    refine wp_cut (fun a (x : NdQ × Nat) => { tmps := ((((((((((a.tmps.setIfInBounds 31 (.agg #[.int .i64 d, .slice A n c])).setIfInBounds 32 (.int .u8 nb)).setIfInBounds 33 (.agg x.1.cs)).setIfInBounds 34 (.tuple #[.agg zt, .int .i64 0, .int .i64 2])).setIfInBounds 30 (.tuple #[.agg zt, .int .i64 0, .int .i64 2])).setIfInBounds 35 (.agg zt)).setIfInBounds 36 (.int .i64 0)).setIfInBounds 37 (.int .i64 2)).setIfInBounds 9 (.pointer (some ⟨x.2, 0, none⟩))).setIfInBounds 10 (.int .i64 0)).setIfInBounds 11 (.int .i64 2), defers := a.defers })
      (fun x W => Hid (Below w4.drew.heap.size w4.drew W)) ?_ ?_
    case refine_1 =>
      clear HLV
      try simp only [Act.put]
      refine Wr.region_calm ?_
      refine wp_region_any (by kernel_rfl) ?_
      change wpAny _ _ _ _ _ _ _ (World.drew w4)
      have HSwdm : Hid (Below (World.drew w4).heap.size (World.drew w4) (World.drew w4)) := Lib.hid (Below.refl _ _)
      generalize World.drew w4 = wdm at *
      refine wpAny_of_held (S := fun W => Below wdm.heap.size wdm W) _ _ _ _ ?_
      refine wpAnyH_take (i := 0) (v := ?ve157) rfl (by kernel_rfl) (by kernel_rfl) (by kernel_rfl) (fun _ _ _ h => h) (Or.inl ⟨by rfl, ?ye157⟩) HSwdm.out ?re157
      case ye157 => (intro w' hSw; obtain ⟨s0, s1⟩ := (HG1.out.below (HWd.out.trans (hSw.mono HWd.out.size)) HL1.out).cs; clear hSw; go_simp; try with_reducible rfl)
      simp only [List.getElem_toArray, List.getElem_cons_succ, List.getElem_cons_zero, Act.put, List.setIfInBounds_toArray, List.set_cons_zero, List.set_cons_succ]
      refine wpAnyH_take (i := 1) (v := ?ve158) rfl (by kernel_rfl) (by kernel_rfl) (by kernel_rfl) (fun _ _ _ h => h) (Or.inl ⟨by rfl, ?ye158⟩) HSwdm.out ?re158
      case ye158 => (intro w' hSw; clear hSw; go_simp; try with_reducible rfl)
      simp only [List.getElem_toArray, List.getElem_cons_succ, List.getElem_cons_zero, Act.put, List.setIfInBounds_toArray, List.set_cons_zero, List.set_cons_succ]
      refine wpAnyH_ready (rs := [2, 8]) (by kernel_rfl) (by simp) ?_
      refine (AllReadyH.cons rfl (fun K' hK => ?_) (AllReadyH.cons rfl (fun K' hK => ?_) AllReadyH.nil))
      · skip
        simp only [List.getElem_toArray, List.getElem_cons_succ, List.getElem_cons_zero]
        go_simp
        refine (leaf_any nb hnb wdm).mono ?_
        rintro e' wl23 ⟨qwl23, rfl, hq, hqf, hb⟩
        have HQwl23 := Lib.hid hq; have HFwl23 := Lib.hid (hqf.and hq.far); have HSwl23 := Lib.hid (HSwdm.out.trans (hb.mono HSwdm.out.size)); have HVwl23 := Lib.hid hb.size
        clear hq hqf hb
        refine hK.out _ _ HSwl23.out (fun _ => ?_)
        clear hK
        try simp only [List.getElem_toArray, List.getElem_cons_succ, List.getElem_cons_zero, Act.put, List.setIfInBounds_toArray, List.set_cons_zero, List.set_cons_succ]
        refine wpAnyH_ready (rs := [3, 8]) (by kernel_rfl) (by simp) ?_
        refine (AllReadyH.cons rfl (fun K' hK => ?_) (AllReadyH.cons rfl (fun K' hK => ?_) AllReadyH.nil))
        · skip
          simp only [List.getElem_toArray, List.getElem_cons_succ, List.getElem_cons_zero]
          go_simp
          refine (add_many d A n c ns qwl23 (leafN nb) wl23 (HN.out.below (HWd.out.trans (HSwl23.out.mono HWd.out.size))) HQwl23.out (HT.out.below (HWd.out.trans (HSwl23.out.mono HWd.out.size))) HR.out (leafN_right nb) HM7.out).mono ?_
          rintro e' mn24 ⟨rfl, hb⟩
          have HQmn24 := Lib.hid (HQwl23.out.below hb); have HSmn24 := Lib.hid (HSwl23.out.trans (hb.mono HSwl23.out.size)); have HVmn24 := Lib.hid hb.size
          clear hb
          refine hK.out _ _ HSmn24.out (fun _ => ?_)
          clear hK
          try simp only [List.getElem_toArray, List.getElem_cons_succ, List.getElem_cons_zero, Act.put, List.setIfInBounds_toArray, List.set_cons_zero, List.set_cons_succ]
          refine wpAnyH_take (i := 4) (v := ?ve159) rfl (by kernel_rfl) (by kernel_rfl) (by kernel_rfl) (fun _ _ _ h => h) (Or.inl ⟨by rfl, ?ye159⟩) HSmn24.out ?re159
          case ye159 => (intro w' hSw; clear hSw; go_simp; try with_reducible rfl)
          simp only [List.getElem_toArray, List.getElem_cons_succ, List.getElem_cons_zero, Act.put, List.setIfInBounds_toArray, List.set_cons_zero, List.set_cons_succ]
          refine wpAnyH_take (i := 5) (v := ?ve160) rfl (by kernel_rfl) (by kernel_rfl) (by kernel_rfl) (fun _ _ _ h => h) (Or.inl ⟨by rfl, ?ye160⟩) HSmn24.out ?re160
          case ye160 => (intro w' hSw; clear hSw; go_simp; try with_reducible rfl)
          simp only [List.getElem_toArray, List.getElem_cons_succ, List.getElem_cons_zero, Act.put, List.setIfInBounds_toArray, List.set_cons_zero, List.set_cons_succ]
          refine wpAnyH_take (i := 6) (v := ?ve161) rfl (by kernel_rfl) (by kernel_rfl) (by kernel_rfl) (fun _ _ _ h => h) (Or.inl ⟨by rfl, ?ye161⟩) HSmn24.out ?re161
          case ye161 => (intro w' hSw; clear hSw; go_simp; try with_reducible rfl)
          simp only [List.getElem_toArray, List.getElem_cons_succ, List.getElem_cons_zero, Act.put, List.setIfInBounds_toArray, List.set_cons_zero, List.set_cons_succ]
          refine wpAnyH_take (i := 7) (v := ?ve162) rfl (by kernel_rfl) (by kernel_rfl) (by kernel_rfl) (fun _ _ _ h => h) (Or.inl ⟨by rfl, ?ye162⟩) HSmn24.out ?re162
          case ye162 => (intro w' hSw; clear hSw; go_simp; try with_reducible rfl)
          simp only [List.getElem_toArray, List.getElem_cons_succ, List.getElem_cons_zero, Act.put, List.setIfInBounds_toArray, List.set_cons_zero, List.set_cons_succ]
          refine wpAnyH_ready (rs := [8]) (by kernel_rfl) (by simp) ?_
          refine (AllReadyH.cons rfl (fun K' hK => ?_) AllReadyH.nil)
          simp only [List.getElem_toArray, List.getElem_cons_succ, List.getElem_cons_zero]
          go_simp
          have ba := below_one mn24 (.cells zt 24)
          have za := heap_alloc_last mn24 (.cells zt 24)
          obtain ⟨wa25, hwa⟩ : ∃ wa, mn24.alloc (.cells zt 24) = wa := ⟨_, rfl⟩
          rw [hwa] at ba za
          try rw [hwa]
          have HSwa25 := Lib.hid (HSmn24.out.trans (ba.mono HSmn24.out.size)); have HZwa25 := Lib.hid za
          have HVwa25 := Lib.hid (show mn24.heap.size < wa25.heap.size from (Array.getElem?_eq_some_iff.1 za).1)
          have HQwa25 := Lib.hid (HQmn24.out.below ba)
          clear hwa ba za
          refine hK.out _ _ HSwa25.out (fun _ => ?_)
          clear hK
          try simp only [List.getElem_toArray, List.getElem_cons_succ, List.getElem_cons_zero, Act.put, List.setIfInBounds_toArray, List.set_cons_zero, List.set_cons_succ]
          refine wpAnyH_ready (rs := [9]) (by kernel_rfl) (by simp) ?_
          refine (AllReadyH.cons rfl (fun K' hK => ?_) AllReadyH.nil)
          simp only [List.getElem_toArray, List.getElem_cons_succ, List.getElem_cons_zero]
          rw [if_pos (by rfl)]
          refine wp_store_row 24 (.tmp 9) (.tmp 35) rfl (mn24.heap.size) #[.int .i64 0, .slice none 0 0] rfl rfl 24 zt HZwa25.out (tr_sized _ _ _ _) rfl (tr_all _ _ _ _) ?_
          have HSwm26' := Lib.hid (below_setRow HSwa25.out (by have := HSmn24.out.size; omega) #[.int .i64 0, .slice none 0 0])
          obtain ⟨wm26, hk⟩ : ∃ W, wa25.setRow (mn24.heap.size) #[.int .i64 0, .slice none 0 0] = W := ⟨_, rfl⟩
          rw [hk] at HSwm26' ⊢
          have HSwm26 := HSwm26'
          clear hk
          refine hK.out _ _ HSwm26.out (fun _ => ?_)
          clear hK
          try simp only [List.getElem_toArray, List.getElem_cons_succ, List.getElem_cons_zero, Act.put, List.setIfInBounds_toArray, List.set_cons_zero, List.set_cons_succ]
          refine wpAnyH_take (i := 10) (v := ?ve163) rfl (by kernel_rfl) (by kernel_rfl) (by kernel_rfl) (fun _ _ _ h => h) (Or.inl ⟨by rfl, ?ye163⟩) HSwm26.out ?re163
          case ye163 => (intro w' hSw; clear hSw; go_simp; try with_reducible rfl)
          simp only [List.getElem_toArray, List.getElem_cons_succ, List.getElem_cons_zero, Act.put, List.setIfInBounds_toArray, List.set_cons_zero, List.set_cons_succ]
          refine wpAnyH_take (i := 11) (v := ?ve164) rfl (by kernel_rfl) (by kernel_rfl) (by kernel_rfl) (fun _ _ _ h => h) (Or.inl ⟨by rfl, ?ye164⟩) HSwm26.out ?re164
          case ye164 => (intro w' hSw; clear hSw; go_simp; try with_reducible rfl)
          simp only [List.getElem_toArray, List.getElem_cons_succ, List.getElem_cons_zero, Act.put, List.setIfInBounds_toArray, List.set_cons_zero, List.set_cons_succ]
          refine wpAnyH_done (by kernel_rfl) ?_ _
          exact ⟨(qwl23, mn24.heap.size), rfl, Lib.hid HSwm26.out⟩
        · skip
          simp only [List.getElem_toArray, List.getElem_cons_succ, List.getElem_cons_zero]
          go_simp
          have ba := below_one wl23 (.cells zt 24)
          have za := heap_alloc_last wl23 (.cells zt 24)
          obtain ⟨wa27, hwa⟩ : ∃ wa, wl23.alloc (.cells zt 24) = wa := ⟨_, rfl⟩
          rw [hwa] at ba za
          try rw [hwa]
          have HSwa27 := Lib.hid (HSwl23.out.trans (ba.mono HSwl23.out.size)); have HZwa27 := Lib.hid za
          have HVwa27 := Lib.hid (show wl23.heap.size < wa27.heap.size from (Array.getElem?_eq_some_iff.1 za).1)
          have HQwa27 := Lib.hid (HQwl23.out.below ba)
          clear hwa ba za
          refine hK.out _ _ HSwa27.out (fun _ => ?_)
          clear hK
          try simp only [List.getElem_toArray, List.getElem_cons_succ, List.getElem_cons_zero, Act.put, List.setIfInBounds_toArray, List.set_cons_zero, List.set_cons_succ]
          refine wpAnyH_ready (rs := [3]) (by kernel_rfl) (by simp) ?_
          refine (AllReadyH.cons rfl (fun K' hK => ?_) AllReadyH.nil)
          simp only [List.getElem_toArray, List.getElem_cons_succ, List.getElem_cons_zero]
          go_simp
          refine (add_many d A n c ns qwl23 (leafN nb) wa27 (HN.out.below (HWd.out.trans (HSwa27.out.mono HWd.out.size))) HQwa27.out (HT.out.below (HWd.out.trans (HSwa27.out.mono HWd.out.size))) HR.out (leafN_right nb) HM7.out).mono ?_
          rintro e' mn28 ⟨rfl, hb⟩
          have HQmn28 := Lib.hid (HQwa27.out.below hb); have HSmn28 := Lib.hid (HSwa27.out.trans (hb.mono HSwa27.out.size)); have HVmn28 := Lib.hid hb.size
          have HZmn28 := Lib.hid ((hb.block _ (Array.getElem?_eq_some_iff.1 HZwa27.out).1).trans HZwa27.out)
          clear hb
          refine hK.out _ _ HSmn28.out (fun _ => ?_)
          clear hK
          try simp only [List.getElem_toArray, List.getElem_cons_succ, List.getElem_cons_zero, Act.put, List.setIfInBounds_toArray, List.set_cons_zero, List.set_cons_succ]
          refine wpAnyH_take (i := 4) (v := ?ve165) rfl (by kernel_rfl) (by kernel_rfl) (by kernel_rfl) (fun _ _ _ h => h) (Or.inl ⟨by rfl, ?ye165⟩) HSmn28.out ?re165
          case ye165 => (intro w' hSw; clear hSw; go_simp; try with_reducible rfl)
          simp only [List.getElem_toArray, List.getElem_cons_succ, List.getElem_cons_zero, Act.put, List.setIfInBounds_toArray, List.set_cons_zero, List.set_cons_succ]
          refine wpAnyH_take (i := 5) (v := ?ve166) rfl (by kernel_rfl) (by kernel_rfl) (by kernel_rfl) (fun _ _ _ h => h) (Or.inl ⟨by rfl, ?ye166⟩) HSmn28.out ?re166
          case ye166 => (intro w' hSw; clear hSw; go_simp; try with_reducible rfl)
          simp only [List.getElem_toArray, List.getElem_cons_succ, List.getElem_cons_zero, Act.put, List.setIfInBounds_toArray, List.set_cons_zero, List.set_cons_succ]
          refine wpAnyH_take (i := 6) (v := ?ve167) rfl (by kernel_rfl) (by kernel_rfl) (by kernel_rfl) (fun _ _ _ h => h) (Or.inl ⟨by rfl, ?ye167⟩) HSmn28.out ?re167
          case ye167 => (intro w' hSw; clear hSw; go_simp; try with_reducible rfl)
          simp only [List.getElem_toArray, List.getElem_cons_succ, List.getElem_cons_zero, Act.put, List.setIfInBounds_toArray, List.set_cons_zero, List.set_cons_succ]
          refine wpAnyH_take (i := 7) (v := ?ve168) rfl (by kernel_rfl) (by kernel_rfl) (by kernel_rfl) (fun _ _ _ h => h) (Or.inl ⟨by rfl, ?ye168⟩) HSmn28.out ?re168
          case ye168 => (intro w' hSw; clear hSw; go_simp; try with_reducible rfl)
          simp only [List.getElem_toArray, List.getElem_cons_succ, List.getElem_cons_zero, Act.put, List.setIfInBounds_toArray, List.set_cons_zero, List.set_cons_succ]
          refine wpAnyH_ready (rs := [9]) (by kernel_rfl) (by simp) ?_
          refine (AllReadyH.cons rfl (fun K' hK => ?_) AllReadyH.nil)
          simp only [List.getElem_toArray, List.getElem_cons_succ, List.getElem_cons_zero]
          rw [if_pos (by rfl)]
          refine wp_store_row 24 (.tmp 9) (.tmp 35) rfl (wl23.heap.size) #[.int .i64 0, .slice none 0 0] rfl rfl 24 zt HZmn28.out (tr_sized _ _ _ _) rfl (tr_all _ _ _ _) ?_
          have HSwm29' := Lib.hid (below_setRow HSmn28.out (by have := HSwl23.out.size; omega) #[.int .i64 0, .slice none 0 0])
          obtain ⟨wm29, hk⟩ : ∃ W, mn28.setRow (wl23.heap.size) #[.int .i64 0, .slice none 0 0] = W := ⟨_, rfl⟩
          rw [hk] at HSwm29' ⊢
          have HSwm29 := HSwm29'
          clear hk
          refine hK.out _ _ HSwm29.out (fun _ => ?_)
          clear hK
          try simp only [List.getElem_toArray, List.getElem_cons_succ, List.getElem_cons_zero, Act.put, List.setIfInBounds_toArray, List.set_cons_zero, List.set_cons_succ]
          refine wpAnyH_take (i := 10) (v := ?ve169) rfl (by kernel_rfl) (by kernel_rfl) (by kernel_rfl) (fun _ _ _ h => h) (Or.inl ⟨by rfl, ?ye169⟩) HSwm29.out ?re169
          case ye169 => (intro w' hSw; clear hSw; go_simp; try with_reducible rfl)
          simp only [List.getElem_toArray, List.getElem_cons_succ, List.getElem_cons_zero, Act.put, List.setIfInBounds_toArray, List.set_cons_zero, List.set_cons_succ]
          refine wpAnyH_take (i := 11) (v := ?ve170) rfl (by kernel_rfl) (by kernel_rfl) (by kernel_rfl) (fun _ _ _ h => h) (Or.inl ⟨by rfl, ?ye170⟩) HSwm29.out ?re170
          case ye170 => (intro w' hSw; clear hSw; go_simp; try with_reducible rfl)
          simp only [List.getElem_toArray, List.getElem_cons_succ, List.getElem_cons_zero, Act.put, List.setIfInBounds_toArray, List.set_cons_zero, List.set_cons_succ]
          refine wpAnyH_done (by kernel_rfl) ?_ _
          exact ⟨(qwl23, wl23.heap.size), rfl, Lib.hid HSwm29.out⟩
      · skip
        simp only [List.getElem_toArray, List.getElem_cons_succ, List.getElem_cons_zero]
        go_simp
        have ba := below_one wdm (.cells zt 24)
        have za := heap_alloc_last wdm (.cells zt 24)
        obtain ⟨wa30, hwa⟩ : ∃ wa, wdm.alloc (.cells zt 24) = wa := ⟨_, rfl⟩
        rw [hwa] at ba za
        try rw [hwa]
        have HSwa30 := Lib.hid (HSwdm.out.trans (ba.mono HSwdm.out.size)); have HZwa30 := Lib.hid za
        have HVwa30 := Lib.hid (show wdm.heap.size < wa30.heap.size from (Array.getElem?_eq_some_iff.1 za).1)
        clear hwa ba za
        refine hK.out _ _ HSwa30.out (fun _ => ?_)
        clear hK
        try simp only [List.getElem_toArray, List.getElem_cons_succ, List.getElem_cons_zero, Act.put, List.setIfInBounds_toArray, List.set_cons_zero, List.set_cons_succ]
        refine wpAnyH_ready (rs := [2]) (by kernel_rfl) (by simp) ?_
        refine (AllReadyH.cons rfl (fun K' hK => ?_) AllReadyH.nil)
        simp only [List.getElem_toArray, List.getElem_cons_succ, List.getElem_cons_zero]
        go_simp
        refine (leaf_any nb hnb wa30).mono ?_
        rintro e' wl31 ⟨qwl31, rfl, hq, hqf, hb⟩
        have HQwl31 := Lib.hid hq; have HFwl31 := Lib.hid (hqf.and hq.far); have HSwl31 := Lib.hid (HSwa30.out.trans (hb.mono HSwa30.out.size)); have HVwl31 := Lib.hid hb.size
        have HZwl31 := Lib.hid ((hb.block _ (Array.getElem?_eq_some_iff.1 HZwa30.out).1).trans HZwa30.out)
        clear hq hqf hb
        refine hK.out _ _ HSwl31.out (fun _ => ?_)
        clear hK
        try simp only [List.getElem_toArray, List.getElem_cons_succ, List.getElem_cons_zero, Act.put, List.setIfInBounds_toArray, List.set_cons_zero, List.set_cons_succ]
        refine wpAnyH_ready (rs := [3]) (by kernel_rfl) (by simp) ?_
        refine (AllReadyH.cons rfl (fun K' hK => ?_) AllReadyH.nil)
        simp only [List.getElem_toArray, List.getElem_cons_succ, List.getElem_cons_zero]
        go_simp
        refine (add_many d A n c ns qwl31 (leafN nb) wl31 (HN.out.below (HWd.out.trans (HSwl31.out.mono HWd.out.size))) HQwl31.out (HT.out.below (HWd.out.trans (HSwl31.out.mono HWd.out.size))) HR.out (leafN_right nb) HM7.out).mono ?_
        rintro e' mn32 ⟨rfl, hb⟩
        have HQmn32 := Lib.hid (HQwl31.out.below hb); have HSmn32 := Lib.hid (HSwl31.out.trans (hb.mono HSwl31.out.size)); have HVmn32 := Lib.hid hb.size
        have HZmn32 := Lib.hid ((hb.block _ (Array.getElem?_eq_some_iff.1 HZwl31.out).1).trans HZwl31.out)
        clear hb
        refine hK.out _ _ HSmn32.out (fun _ => ?_)
        clear hK
        try simp only [List.getElem_toArray, List.getElem_cons_succ, List.getElem_cons_zero, Act.put, List.setIfInBounds_toArray, List.set_cons_zero, List.set_cons_succ]
        refine wpAnyH_take (i := 4) (v := ?ve171) rfl (by kernel_rfl) (by kernel_rfl) (by kernel_rfl) (fun _ _ _ h => h) (Or.inl ⟨by rfl, ?ye171⟩) HSmn32.out ?re171
        case ye171 => (intro w' hSw; clear hSw; go_simp; try with_reducible rfl)
        simp only [List.getElem_toArray, List.getElem_cons_succ, List.getElem_cons_zero, Act.put, List.setIfInBounds_toArray, List.set_cons_zero, List.set_cons_succ]
        refine wpAnyH_take (i := 5) (v := ?ve172) rfl (by kernel_rfl) (by kernel_rfl) (by kernel_rfl) (fun _ _ _ h => h) (Or.inl ⟨by rfl, ?ye172⟩) HSmn32.out ?re172
        case ye172 => (intro w' hSw; clear hSw; go_simp; try with_reducible rfl)
        simp only [List.getElem_toArray, List.getElem_cons_succ, List.getElem_cons_zero, Act.put, List.setIfInBounds_toArray, List.set_cons_zero, List.set_cons_succ]
        refine wpAnyH_take (i := 6) (v := ?ve173) rfl (by kernel_rfl) (by kernel_rfl) (by kernel_rfl) (fun _ _ _ h => h) (Or.inl ⟨by rfl, ?ye173⟩) HSmn32.out ?re173
        case ye173 => (intro w' hSw; clear hSw; go_simp; try with_reducible rfl)
        simp only [List.getElem_toArray, List.getElem_cons_succ, List.getElem_cons_zero, Act.put, List.setIfInBounds_toArray, List.set_cons_zero, List.set_cons_succ]
        refine wpAnyH_take (i := 7) (v := ?ve174) rfl (by kernel_rfl) (by kernel_rfl) (by kernel_rfl) (fun _ _ _ h => h) (Or.inl ⟨by rfl, ?ye174⟩) HSmn32.out ?re174
        case ye174 => (intro w' hSw; clear hSw; go_simp; try with_reducible rfl)
        simp only [List.getElem_toArray, List.getElem_cons_succ, List.getElem_cons_zero, Act.put, List.setIfInBounds_toArray, List.set_cons_zero, List.set_cons_succ]
        refine wpAnyH_ready (rs := [9]) (by kernel_rfl) (by simp) ?_
        refine (AllReadyH.cons rfl (fun K' hK => ?_) AllReadyH.nil)
        simp only [List.getElem_toArray, List.getElem_cons_succ, List.getElem_cons_zero]
        rw [if_pos (by rfl)]
        refine wp_store_row 24 (.tmp 9) (.tmp 35) rfl (wdm.heap.size) #[.int .i64 0, .slice none 0 0] rfl rfl 24 zt HZmn32.out (tr_sized _ _ _ _) rfl (tr_all _ _ _ _) ?_
        have HSwm33' := Lib.hid (below_setRow HSmn32.out (by have := HSwdm.out.size; omega) #[.int .i64 0, .slice none 0 0])
        obtain ⟨wm33, hk⟩ : ∃ W, mn32.setRow (wdm.heap.size) #[.int .i64 0, .slice none 0 0] = W := ⟨_, rfl⟩
        rw [hk] at HSwm33' ⊢
        have HSwm33 := HSwm33'
        clear hk
        refine hK.out _ _ HSwm33.out (fun _ => ?_)
        clear hK
        try simp only [List.getElem_toArray, List.getElem_cons_succ, List.getElem_cons_zero, Act.put, List.setIfInBounds_toArray, List.set_cons_zero, List.set_cons_succ]
        refine wpAnyH_take (i := 10) (v := ?ve175) rfl (by kernel_rfl) (by kernel_rfl) (by kernel_rfl) (fun _ _ _ h => h) (Or.inl ⟨by rfl, ?ye175⟩) HSwm33.out ?re175
        case ye175 => (intro w' hSw; clear hSw; go_simp; try with_reducible rfl)
        simp only [List.getElem_toArray, List.getElem_cons_succ, List.getElem_cons_zero, Act.put, List.setIfInBounds_toArray, List.set_cons_zero, List.set_cons_succ]
        refine wpAnyH_take (i := 11) (v := ?ve176) rfl (by kernel_rfl) (by kernel_rfl) (by kernel_rfl) (fun _ _ _ h => h) (Or.inl ⟨by rfl, ?ye176⟩) HSwm33.out ?re176
        case ye176 => (intro w' hSw; clear hSw; go_simp; try with_reducible rfl)
        simp only [List.getElem_toArray, List.getElem_cons_succ, List.getElem_cons_zero, Act.put, List.setIfInBounds_toArray, List.set_cons_zero, List.set_cons_succ]
        refine wpAnyH_done (by kernel_rfl) ?_ _
        exact ⟨(qwl31, wdm.heap.size), rfl, Lib.hid HSwm33.out⟩
    case refine_2 =>
      rintro ⟨q5, b5⟩ w6 H5
      simp only [List.setIfInBounds_toArray, List.set_cons_succ, List.set_cons_zero]
      have HC6 : Hid (Below W0.heap.size W0 w6) := Lib.hid (HWd.out.trans (H5.out.mono HWd.out.size))
      go_wp2
      go_ret
      exact ⟨rfl, B0.out.trans (HC6.out.mono B0.out.size)⟩
  have CA : Hid (∀ (B : Nat) (q : NdQ) (W : World), Below w4.drew.heap.size w4.drew W → w.heap.size ≤ B → NdIs Any W q (leafN nb) → NdFar (fun x => x ≠ B) q → Calls Tryz.prog 21 #[.agg #[.int .i64 d, .slice A n c], .agg q.cs] W fun e w' => ∃ g2 bs2, e = .returned (.tuple #[.agg #[.int .i64 d2, .slice (some ⟨g2, 0, none⟩) N2 N2], .int .i64 f2, .int .i64 0]) ∧ W.heap.size ≤ g2 ∧ OwnN (fun x => x ≠ g2 ∧ (B < W.heap.size → x ≠ B) ∧ x < w'.heap.size) w' bs2 g2 N2 N2 ns2 ∧ Below W.heap.size W w') := Lib.hid fun B q W hb hB hq hf => by
    have hW := HWd.out.trans (hb.mono HWd.out.size)
    refine law_add d A n c ns nb d2 f2 N2 ns2 HX.out HR.out h6 HN2.out B q W (HN.out.below hW) (fun ad e j q hj hat => ?_) hq hf (HT.out.below hW)
    exact (HN0.out.farB (B0.out.trans (hW.mono B0.out.size)) ad e j q hj hat).mono (fun x hx => by omega)
  have H6 := Lib.hid h6
  clear h6
  go_wp2_with fail
  refine wp_cut (fun a (x : NdQ × Nat × Nat) => { tmps := ((((((((((a.tmps.setIfInBounds 31 (.agg #[.int .i64 d, .slice A n c])).setIfInBounds 32 (.int .u8 nb)).setIfInBounds 33 (.agg x.1.cs)).setIfInBounds 34 (.tuple #[.agg #[.int .i64 d2, .slice (some ⟨x.2.1, 0, none⟩) N2 N2], .int .i64 f2, .int .i64 0])).setIfInBounds 30 (.tuple #[.agg #[.int .i64 d2, .slice (some ⟨x.2.1, 0, none⟩) N2 N2], .int .i64 f2, .int .i64 0])).setIfInBounds 35 (.agg #[.int .i64 d2, .slice (some ⟨x.2.1, 0, none⟩) N2 N2])).setIfInBounds 36 (.int .i64 f2)).setIfInBounds 37 (.int .i64 0)).setIfInBounds 9 (.pointer (some ⟨x.2.2, 0, none⟩))).setIfInBounds 10 (.int .i64 f2)).setIfInBounds 11 (.int .i64 0), defers := a.defers })
    (fun x W => Hid (TrB d2 (some ⟨x.2.1, 0, none⟩) N2 N2 W x.2.2 ∧ Nodes Any Any W (some ⟨x.2.1, 0, none⟩) N2 N2 ns2 ∧ Below w4.drew.heap.size w4.drew W)) ?_ ?_
  case refine_1 =>
    try simp only [Act.put]
    refine Wr.region_calm ?_
    refine wp_region_any (by kernel_rfl) ?_
    change wpAny _ _ _ _ _ _ _ (World.drew w4)
    have HSwd5 : Hid (Below (World.drew w4).heap.size (World.drew w4) (World.drew w4)) := Lib.hid (Below.refl _ _)
    generalize World.drew w4 = wd5 at *
    refine wpAny_of_held (S := fun W => Below wd5.heap.size wd5 W) _ _ _ _ ?_
    refine wpAnyH_take (i := 0) (v := ?ve1) rfl (by kernel_rfl) (by kernel_rfl) (by kernel_rfl) (fun _ _ _ h => h) (Or.inl ⟨by rfl, ?ye1⟩) HSwd5.out ?re1
    case ye1 => (intro w' hSw; obtain ⟨s0, s1⟩ := (HG1.out.below (HWd.out.trans (hSw.mono HWd.out.size)) HL1.out).cs; clear hSw; go_simp; try with_reducible rfl)
    simp only [List.getElem_toArray, List.getElem_cons_succ, List.getElem_cons_zero, Act.put, List.setIfInBounds_toArray, List.set_cons_zero, List.set_cons_succ]
    refine wpAnyH_take (i := 1) (v := ?ve2) rfl (by kernel_rfl) (by kernel_rfl) (by kernel_rfl) (fun _ _ _ h => h) (Or.inl ⟨by rfl, ?ye2⟩) HSwd5.out ?re2
    case ye2 => (intro w' hSw; clear hSw; go_simp; try with_reducible rfl)
    simp only [List.getElem_toArray, List.getElem_cons_succ, List.getElem_cons_zero, Act.put, List.setIfInBounds_toArray, List.set_cons_zero, List.set_cons_succ]
    refine wpAnyH_ready (rs := [2, 8]) (by kernel_rfl) (by simp) ?_
    refine (AllReadyH.cons rfl (fun K' hK => ?_) (AllReadyH.cons rfl (fun K' hK => ?_) AllReadyH.nil))
    · skip
      simp only [List.getElem_toArray, List.getElem_cons_succ, List.getElem_cons_zero]
      go_simp
      refine (leaf_any nb hnb wd5).mono ?_
      rintro e' wl1 ⟨qwl1, rfl, hq, hqf, hb⟩
      have HQwl1 := Lib.hid hq; have HFwl1 := Lib.hid (hqf.and hq.far); have HSwl1 := Lib.hid (HSwd5.out.trans (hb.mono HSwd5.out.size)); have HVwl1 := Lib.hid hb.size
      clear hq hqf hb
      refine hK.out _ _ HSwl1.out (fun _ => ?_)
      clear hK
      try simp only [List.getElem_toArray, List.getElem_cons_succ, List.getElem_cons_zero, Act.put, List.setIfInBounds_toArray, List.set_cons_zero, List.set_cons_succ]
      refine wpAnyH_ready (rs := [3, 8]) (by kernel_rfl) (by simp) ?_
      refine (AllReadyH.cons rfl (fun K' hK => ?_) (AllReadyH.cons rfl (fun K' hK => ?_) AllReadyH.nil))
      · skip
        simp only [List.getElem_toArray, List.getElem_cons_succ, List.getElem_cons_zero]
        go_simp
        have hfq : NdFar (fun x => x ≠ wl1.heap.size) qwl1 := (HFwl1.out).mono (fun x hx => by (have h1 := hx.1; have h2 := hx.2; have := HVwl1.out; omega))
        refine (CA.out wl1.heap.size qwl1 wl1 HSwl1.out (by have := HWZ.out; have := HSwl1.out.size;  omega) HQwl1.out hfq).mono ?_
        rintro e' ad2 ⟨g, bs, rfl, hg2, ho, hb⟩
        have HOad2 := Lib.hid ho; have HGad2 := Lib.hid hg2; have HSad2 := Lib.hid (HSwl1.out.trans (hb.mono HSwl1.out.size)); have HVad2 := Lib.hid hb.size
        clear hfq hg2 ho hb
        refine hK.out _ _ HSad2.out (fun _ => ?_)
        clear hK
        try simp only [List.getElem_toArray, List.getElem_cons_succ, List.getElem_cons_zero, Act.put, List.setIfInBounds_toArray, List.set_cons_zero, List.set_cons_succ]
        refine wpAnyH_take (i := 4) (v := ?ve3) rfl (by kernel_rfl) (by kernel_rfl) (by kernel_rfl) (fun _ _ _ h => h) (Or.inl ⟨by rfl, ?ye3⟩) HSad2.out ?re3
        case ye3 => (intro w' hSw; clear hSw; go_simp; try with_reducible rfl)
        simp only [List.getElem_toArray, List.getElem_cons_succ, List.getElem_cons_zero, Act.put, List.setIfInBounds_toArray, List.set_cons_zero, List.set_cons_succ]
        refine wpAnyH_take (i := 5) (v := ?ve4) rfl (by kernel_rfl) (by kernel_rfl) (by kernel_rfl) (fun _ _ _ h => h) (Or.inl ⟨by rfl, ?ye4⟩) HSad2.out ?re4
        case ye4 => (intro w' hSw; clear hSw; go_simp; try with_reducible rfl)
        simp only [List.getElem_toArray, List.getElem_cons_succ, List.getElem_cons_zero, Act.put, List.setIfInBounds_toArray, List.set_cons_zero, List.set_cons_succ]
        refine wpAnyH_take (i := 6) (v := ?ve5) rfl (by kernel_rfl) (by kernel_rfl) (by kernel_rfl) (fun _ _ _ h => h) (Or.inl ⟨by rfl, ?ye5⟩) HSad2.out ?re5
        case ye5 => (intro w' hSw; clear hSw; go_simp; try with_reducible rfl)
        simp only [List.getElem_toArray, List.getElem_cons_succ, List.getElem_cons_zero, Act.put, List.setIfInBounds_toArray, List.set_cons_zero, List.set_cons_succ]
        refine wpAnyH_take (i := 7) (v := ?ve6) rfl (by kernel_rfl) (by kernel_rfl) (by kernel_rfl) (fun _ _ _ h => h) (Or.inl ⟨by rfl, ?ye6⟩) HSad2.out ?re6
        case ye6 => (intro w' hSw; clear hSw; go_simp; try with_reducible rfl)
        simp only [List.getElem_toArray, List.getElem_cons_succ, List.getElem_cons_zero, Act.put, List.setIfInBounds_toArray, List.set_cons_zero, List.set_cons_succ]
        refine wpAnyH_ready (rs := [8]) (by kernel_rfl) (by simp) ?_
        refine (AllReadyH.cons rfl (fun K' hK => ?_) AllReadyH.nil)
        simp only [List.getElem_toArray, List.getElem_cons_succ, List.getElem_cons_zero]
        go_simp
        have ba := below_one ad2 (.cells zt 24)
        have za := heap_alloc_last ad2 (.cells zt 24)
        obtain ⟨wa3, hwa⟩ : ∃ wa, ad2.alloc (.cells zt 24) = wa := ⟨_, rfl⟩
        rw [hwa] at ba za
        try rw [hwa]
        have HSwa3 := Lib.hid (HSad2.out.trans (ba.mono HSad2.out.size)); have HZwa3 := Lib.hid za
        have HVwa3 := Lib.hid (show ad2.heap.size < wa3.heap.size from (Array.getElem?_eq_some_iff.1 za).1)
        have HOwa3 := Lib.hid (HOad2.out.below ba)
        clear hwa ba za
        refine hK.out _ _ HSwa3.out (fun _ => ?_)
        clear hK
        try simp only [List.getElem_toArray, List.getElem_cons_succ, List.getElem_cons_zero, Act.put, List.setIfInBounds_toArray, List.set_cons_zero, List.set_cons_succ]
        refine wpAnyH_ready (rs := [9]) (by kernel_rfl) (by simp) ?_
        refine (AllReadyH.cons rfl (fun K' hK => ?_) AllReadyH.nil)
        simp only [List.getElem_toArray, List.getElem_cons_succ, List.getElem_cons_zero]
        rw [if_pos (by rfl)]
        refine wp_store_row 24 (.tmp 9) (.tmp 35) rfl (ad2.heap.size) #[.int .i64 (d2 : Nat), .slice (some ⟨g, 0, none⟩) N2 N2] rfl rfl 24 zt HZwa3.out (tr_sized _ _ _ _) rfl (tr_all _ _ _ _) ?_
        have HTRws4 := Lib.hid (setRow_heap wa3 (ad2.heap.size) _ #[.int .i64 (d2 : Nat), .slice (some ⟨g, 0, none⟩) N2 N2] 24 _ HZwa3.out)
        have hgb : g ≠ ad2.heap.size := by (have h1 := HGad2.out; have h2 := HOad2.out.lt.2; have := HVwl1.out; have := HVad2.out; have := HVwa3.out; omega)
        have HNDws4 := Lib.hid ((HOwa3.out.kept (w' := wa3.setRow (ad2.heap.size) #[.int .i64 (d2 : Nat), .slice (some ⟨g, 0, none⟩) N2 N2]) (by simp [World.setRow]) (setRow_other wa3 _ _ _ hgb) (fun b hb _ => setRow_other wa3 _ b _ (by have h1 := hb.2.2; omega))).nodes.any)
        have HSws4' := Lib.hid (below_setRow HSwa3.out (by have := HSad2.out.size; omega) #[.int .i64 (d2 : Nat), .slice (some ⟨g, 0, none⟩) N2 N2])
        obtain ⟨ws4, hk⟩ : ∃ W, wa3.setRow (ad2.heap.size) #[.int .i64 (d2 : Nat), .slice (some ⟨g, 0, none⟩) N2 N2] = W := ⟨_, rfl⟩
        rw [hk] at HTRws4 HNDws4 HSws4' ⊢
        have HSws4 := HSws4'
        clear hk hgb
        refine hK.out _ _ HSws4.out (fun _ => ?_)
        clear hK
        try simp only [List.getElem_toArray, List.getElem_cons_succ, List.getElem_cons_zero, Act.put, List.setIfInBounds_toArray, List.set_cons_zero, List.set_cons_succ]
        refine wpAnyH_take (i := 10) (v := ?ve7) rfl (by kernel_rfl) (by kernel_rfl) (by kernel_rfl) (fun _ _ _ h => h) (Or.inl ⟨by rfl, ?ye7⟩) HSws4.out ?re7
        case ye7 => (intro w' hSw; clear hSw; go_simp; try with_reducible rfl)
        simp only [List.getElem_toArray, List.getElem_cons_succ, List.getElem_cons_zero, Act.put, List.setIfInBounds_toArray, List.set_cons_zero, List.set_cons_succ]
        refine wpAnyH_take (i := 11) (v := ?ve8) rfl (by kernel_rfl) (by kernel_rfl) (by kernel_rfl) (fun _ _ _ h => h) (Or.inl ⟨by rfl, ?ye8⟩) HSws4.out ?re8
        case ye8 => (intro w' hSw; clear hSw; go_simp; try with_reducible rfl)
        simp only [List.getElem_toArray, List.getElem_cons_succ, List.getElem_cons_zero, Act.put, List.setIfInBounds_toArray, List.set_cons_zero, List.set_cons_succ]
        refine wpAnyH_done (by kernel_rfl) ?_ _
        exact ⟨(qwl1, g, ad2.heap.size), rfl, Lib.hid ⟨HTRws4.out, HNDws4.out, HSws4.out⟩⟩
      · skip
        simp only [List.getElem_toArray, List.getElem_cons_succ, List.getElem_cons_zero]
        go_simp
        have ba := below_one wl1 (.cells zt 24)
        have za := heap_alloc_last wl1 (.cells zt 24)
        obtain ⟨wa5, hwa⟩ : ∃ wa, wl1.alloc (.cells zt 24) = wa := ⟨_, rfl⟩
        rw [hwa] at ba za
        try rw [hwa]
        have HSwa5 := Lib.hid (HSwl1.out.trans (ba.mono HSwl1.out.size)); have HZwa5 := Lib.hid za
        have HVwa5 := Lib.hid (show wl1.heap.size < wa5.heap.size from (Array.getElem?_eq_some_iff.1 za).1)
        have HQwa5 := Lib.hid (HQwl1.out.below ba)
        clear hwa ba za
        refine hK.out _ _ HSwa5.out (fun _ => ?_)
        clear hK
        try simp only [List.getElem_toArray, List.getElem_cons_succ, List.getElem_cons_zero, Act.put, List.setIfInBounds_toArray, List.set_cons_zero, List.set_cons_succ]
        refine wpAnyH_ready (rs := [3]) (by kernel_rfl) (by simp) ?_
        refine (AllReadyH.cons rfl (fun K' hK => ?_) AllReadyH.nil)
        simp only [List.getElem_toArray, List.getElem_cons_succ, List.getElem_cons_zero]
        go_simp
        have hfq : NdFar (fun x => x ≠ wl1.heap.size) qwl1 := (HFwl1.out).mono (fun x hx => by (have h1 := hx.1; have h2 := hx.2; have := HVwl1.out; have := HVwa5.out; omega))
        refine (CA.out wl1.heap.size qwl1 wa5 HSwa5.out (by have := HWZ.out; have := HSwa5.out.size; have := HSwl1.out.size; omega) HQwa5.out hfq).mono ?_
        rintro e' ad6 ⟨g, bs, rfl, hg2, ho, hb⟩
        have HOad6 := Lib.hid ho; have HGad6 := Lib.hid hg2; have HSad6 := Lib.hid (HSwa5.out.trans (hb.mono HSwa5.out.size)); have HVad6 := Lib.hid hb.size
        have HZad6 := Lib.hid ((hb.block _ (Array.getElem?_eq_some_iff.1 HZwa5.out).1).trans HZwa5.out)
        clear hfq hg2 ho hb
        refine hK.out _ _ HSad6.out (fun _ => ?_)
        clear hK
        try simp only [List.getElem_toArray, List.getElem_cons_succ, List.getElem_cons_zero, Act.put, List.setIfInBounds_toArray, List.set_cons_zero, List.set_cons_succ]
        refine wpAnyH_take (i := 4) (v := ?ve9) rfl (by kernel_rfl) (by kernel_rfl) (by kernel_rfl) (fun _ _ _ h => h) (Or.inl ⟨by rfl, ?ye9⟩) HSad6.out ?re9
        case ye9 => (intro w' hSw; clear hSw; go_simp; try with_reducible rfl)
        simp only [List.getElem_toArray, List.getElem_cons_succ, List.getElem_cons_zero, Act.put, List.setIfInBounds_toArray, List.set_cons_zero, List.set_cons_succ]
        refine wpAnyH_take (i := 5) (v := ?ve10) rfl (by kernel_rfl) (by kernel_rfl) (by kernel_rfl) (fun _ _ _ h => h) (Or.inl ⟨by rfl, ?ye10⟩) HSad6.out ?re10
        case ye10 => (intro w' hSw; clear hSw; go_simp; try with_reducible rfl)
        simp only [List.getElem_toArray, List.getElem_cons_succ, List.getElem_cons_zero, Act.put, List.setIfInBounds_toArray, List.set_cons_zero, List.set_cons_succ]
        refine wpAnyH_take (i := 6) (v := ?ve11) rfl (by kernel_rfl) (by kernel_rfl) (by kernel_rfl) (fun _ _ _ h => h) (Or.inl ⟨by rfl, ?ye11⟩) HSad6.out ?re11
        case ye11 => (intro w' hSw; clear hSw; go_simp; try with_reducible rfl)
        simp only [List.getElem_toArray, List.getElem_cons_succ, List.getElem_cons_zero, Act.put, List.setIfInBounds_toArray, List.set_cons_zero, List.set_cons_succ]
        refine wpAnyH_take (i := 7) (v := ?ve12) rfl (by kernel_rfl) (by kernel_rfl) (by kernel_rfl) (fun _ _ _ h => h) (Or.inl ⟨by rfl, ?ye12⟩) HSad6.out ?re12
        case ye12 => (intro w' hSw; clear hSw; go_simp; try with_reducible rfl)
        simp only [List.getElem_toArray, List.getElem_cons_succ, List.getElem_cons_zero, Act.put, List.setIfInBounds_toArray, List.set_cons_zero, List.set_cons_succ]
        refine wpAnyH_ready (rs := [9]) (by kernel_rfl) (by simp) ?_
        refine (AllReadyH.cons rfl (fun K' hK => ?_) AllReadyH.nil)
        simp only [List.getElem_toArray, List.getElem_cons_succ, List.getElem_cons_zero]
        rw [if_pos (by rfl)]
        refine wp_store_row 24 (.tmp 9) (.tmp 35) rfl (wl1.heap.size) #[.int .i64 (d2 : Nat), .slice (some ⟨g, 0, none⟩) N2 N2] rfl rfl 24 zt HZad6.out (tr_sized _ _ _ _) rfl (tr_all _ _ _ _) ?_
        have HTRws7 := Lib.hid (setRow_heap ad6 (wl1.heap.size) _ #[.int .i64 (d2 : Nat), .slice (some ⟨g, 0, none⟩) N2 N2] 24 _ HZad6.out)
        have hgb : g ≠ wl1.heap.size := by (have h1 := HGad6.out;  have := HVwl1.out; have := HVwa5.out; have := HVad6.out; omega)
        have HNDws7 := Lib.hid ((HOad6.out.kept (w' := ad6.setRow (wl1.heap.size) #[.int .i64 (d2 : Nat), .slice (some ⟨g, 0, none⟩) N2 N2]) (by simp [World.setRow]) (setRow_other ad6 _ _ _ hgb) (fun b hb _ => setRow_other ad6 _ b _ (by exact hb.2.1 (by have := HVwl1.out; have := HVwa5.out; have := HVad6.out; omega)))).nodes.any)
        have HSws7' := Lib.hid (below_setRow HSad6.out (by have := HSwl1.out.size; omega) #[.int .i64 (d2 : Nat), .slice (some ⟨g, 0, none⟩) N2 N2])
        obtain ⟨ws7, hk⟩ : ∃ W, ad6.setRow (wl1.heap.size) #[.int .i64 (d2 : Nat), .slice (some ⟨g, 0, none⟩) N2 N2] = W := ⟨_, rfl⟩
        rw [hk] at HTRws7 HNDws7 HSws7' ⊢
        have HSws7 := HSws7'
        clear hk hgb
        refine hK.out _ _ HSws7.out (fun _ => ?_)
        clear hK
        try simp only [List.getElem_toArray, List.getElem_cons_succ, List.getElem_cons_zero, Act.put, List.setIfInBounds_toArray, List.set_cons_zero, List.set_cons_succ]
        refine wpAnyH_take (i := 10) (v := ?ve13) rfl (by kernel_rfl) (by kernel_rfl) (by kernel_rfl) (fun _ _ _ h => h) (Or.inl ⟨by rfl, ?ye13⟩) HSws7.out ?re13
        case ye13 => (intro w' hSw; clear hSw; go_simp; try with_reducible rfl)
        simp only [List.getElem_toArray, List.getElem_cons_succ, List.getElem_cons_zero, Act.put, List.setIfInBounds_toArray, List.set_cons_zero, List.set_cons_succ]
        refine wpAnyH_take (i := 11) (v := ?ve14) rfl (by kernel_rfl) (by kernel_rfl) (by kernel_rfl) (fun _ _ _ h => h) (Or.inl ⟨by rfl, ?ye14⟩) HSws7.out ?re14
        case ye14 => (intro w' hSw; clear hSw; go_simp; try with_reducible rfl)
        simp only [List.getElem_toArray, List.getElem_cons_succ, List.getElem_cons_zero, Act.put, List.setIfInBounds_toArray, List.set_cons_zero, List.set_cons_succ]
        refine wpAnyH_done (by kernel_rfl) ?_ _
        exact ⟨(qwl1, g, wl1.heap.size), rfl, Lib.hid ⟨HTRws7.out, HNDws7.out, HSws7.out⟩⟩
    · skip
      simp only [List.getElem_toArray, List.getElem_cons_succ, List.getElem_cons_zero]
      go_simp
      have ba := below_one wd5 (.cells zt 24)
      have za := heap_alloc_last wd5 (.cells zt 24)
      obtain ⟨wa8, hwa⟩ : ∃ wa, wd5.alloc (.cells zt 24) = wa := ⟨_, rfl⟩
      rw [hwa] at ba za
      try rw [hwa]
      have HSwa8 := Lib.hid (HSwd5.out.trans (ba.mono HSwd5.out.size)); have HZwa8 := Lib.hid za
      have HVwa8 := Lib.hid (show wd5.heap.size < wa8.heap.size from (Array.getElem?_eq_some_iff.1 za).1)
      clear hwa ba za
      refine hK.out _ _ HSwa8.out (fun _ => ?_)
      clear hK
      try simp only [List.getElem_toArray, List.getElem_cons_succ, List.getElem_cons_zero, Act.put, List.setIfInBounds_toArray, List.set_cons_zero, List.set_cons_succ]
      refine wpAnyH_ready (rs := [2]) (by kernel_rfl) (by simp) ?_
      refine (AllReadyH.cons rfl (fun K' hK => ?_) AllReadyH.nil)
      simp only [List.getElem_toArray, List.getElem_cons_succ, List.getElem_cons_zero]
      go_simp
      refine (leaf_any nb hnb wa8).mono ?_
      rintro e' wl9 ⟨qwl9, rfl, hq, hqf, hb⟩
      have HQwl9 := Lib.hid hq; have HFwl9 := Lib.hid (hqf.and hq.far); have HSwl9 := Lib.hid (HSwa8.out.trans (hb.mono HSwa8.out.size)); have HVwl9 := Lib.hid hb.size
      have HZwl9 := Lib.hid ((hb.block _ (Array.getElem?_eq_some_iff.1 HZwa8.out).1).trans HZwa8.out)
      clear hq hqf hb
      refine hK.out _ _ HSwl9.out (fun _ => ?_)
      clear hK
      try simp only [List.getElem_toArray, List.getElem_cons_succ, List.getElem_cons_zero, Act.put, List.setIfInBounds_toArray, List.set_cons_zero, List.set_cons_succ]
      refine wpAnyH_ready (rs := [3]) (by kernel_rfl) (by simp) ?_
      refine (AllReadyH.cons rfl (fun K' hK => ?_) AllReadyH.nil)
      simp only [List.getElem_toArray, List.getElem_cons_succ, List.getElem_cons_zero]
      go_simp
      have hfq : NdFar (fun x => x ≠ wd5.heap.size) qwl9 := (HFwl9.out).mono (fun x hx => by (have h1 := hx.1; have h2 := hx.2; have := HVwa8.out; have := HVwl9.out; omega))
      refine (CA.out wd5.heap.size qwl9 wl9 HSwl9.out (by have := HWZ.out; have := HSwl9.out.size; have := HSwd5.out.size; omega) HQwl9.out hfq).mono ?_
      rintro e' ad10 ⟨g, bs, rfl, hg2, ho, hb⟩
      have HOad10 := Lib.hid ho; have HGad10 := Lib.hid hg2; have HSad10 := Lib.hid (HSwl9.out.trans (hb.mono HSwl9.out.size)); have HVad10 := Lib.hid hb.size
      have HZad10 := Lib.hid ((hb.block _ (Array.getElem?_eq_some_iff.1 HZwl9.out).1).trans HZwl9.out)
      clear hfq hg2 ho hb
      refine hK.out _ _ HSad10.out (fun _ => ?_)
      clear hK
      try simp only [List.getElem_toArray, List.getElem_cons_succ, List.getElem_cons_zero, Act.put, List.setIfInBounds_toArray, List.set_cons_zero, List.set_cons_succ]
      refine wpAnyH_take (i := 4) (v := ?ve15) rfl (by kernel_rfl) (by kernel_rfl) (by kernel_rfl) (fun _ _ _ h => h) (Or.inl ⟨by rfl, ?ye15⟩) HSad10.out ?re15
      case ye15 => (intro w' hSw; clear hSw; go_simp; try with_reducible rfl)
      simp only [List.getElem_toArray, List.getElem_cons_succ, List.getElem_cons_zero, Act.put, List.setIfInBounds_toArray, List.set_cons_zero, List.set_cons_succ]
      refine wpAnyH_take (i := 5) (v := ?ve16) rfl (by kernel_rfl) (by kernel_rfl) (by kernel_rfl) (fun _ _ _ h => h) (Or.inl ⟨by rfl, ?ye16⟩) HSad10.out ?re16
      case ye16 => (intro w' hSw; clear hSw; go_simp; try with_reducible rfl)
      simp only [List.getElem_toArray, List.getElem_cons_succ, List.getElem_cons_zero, Act.put, List.setIfInBounds_toArray, List.set_cons_zero, List.set_cons_succ]
      refine wpAnyH_take (i := 6) (v := ?ve17) rfl (by kernel_rfl) (by kernel_rfl) (by kernel_rfl) (fun _ _ _ h => h) (Or.inl ⟨by rfl, ?ye17⟩) HSad10.out ?re17
      case ye17 => (intro w' hSw; clear hSw; go_simp; try with_reducible rfl)
      simp only [List.getElem_toArray, List.getElem_cons_succ, List.getElem_cons_zero, Act.put, List.setIfInBounds_toArray, List.set_cons_zero, List.set_cons_succ]
      refine wpAnyH_take (i := 7) (v := ?ve18) rfl (by kernel_rfl) (by kernel_rfl) (by kernel_rfl) (fun _ _ _ h => h) (Or.inl ⟨by rfl, ?ye18⟩) HSad10.out ?re18
      case ye18 => (intro w' hSw; clear hSw; go_simp; try with_reducible rfl)
      simp only [List.getElem_toArray, List.getElem_cons_succ, List.getElem_cons_zero, Act.put, List.setIfInBounds_toArray, List.set_cons_zero, List.set_cons_succ]
      refine wpAnyH_ready (rs := [9]) (by kernel_rfl) (by simp) ?_
      refine (AllReadyH.cons rfl (fun K' hK => ?_) AllReadyH.nil)
      simp only [List.getElem_toArray, List.getElem_cons_succ, List.getElem_cons_zero]
      rw [if_pos (by rfl)]
      refine wp_store_row 24 (.tmp 9) (.tmp 35) rfl (wd5.heap.size) #[.int .i64 (d2 : Nat), .slice (some ⟨g, 0, none⟩) N2 N2] rfl rfl 24 zt HZad10.out (tr_sized _ _ _ _) rfl (tr_all _ _ _ _) ?_
      have HTRws11 := Lib.hid (setRow_heap ad10 (wd5.heap.size) _ #[.int .i64 (d2 : Nat), .slice (some ⟨g, 0, none⟩) N2 N2] 24 _ HZad10.out)
      have hgb : g ≠ wd5.heap.size := by (have h1 := HGad10.out;  have := HVwa8.out; have := HVwl9.out; have := HVad10.out; omega)
      have HNDws11 := Lib.hid ((HOad10.out.kept (w' := ad10.setRow (wd5.heap.size) #[.int .i64 (d2 : Nat), .slice (some ⟨g, 0, none⟩) N2 N2]) (by simp [World.setRow]) (setRow_other ad10 _ _ _ hgb) (fun b hb _ => setRow_other ad10 _ b _ (by exact hb.2.1 (by have := HVwa8.out; have := HVwl9.out; have := HVad10.out; omega)))).nodes.any)
      have HSws11' := Lib.hid (below_setRow HSad10.out (by have := HSwd5.out.size; omega) #[.int .i64 (d2 : Nat), .slice (some ⟨g, 0, none⟩) N2 N2])
      obtain ⟨ws11, hk⟩ : ∃ W, ad10.setRow (wd5.heap.size) #[.int .i64 (d2 : Nat), .slice (some ⟨g, 0, none⟩) N2 N2] = W := ⟨_, rfl⟩
      rw [hk] at HTRws11 HNDws11 HSws11' ⊢
      have HSws11 := HSws11'
      clear hk hgb
      refine hK.out _ _ HSws11.out (fun _ => ?_)
      clear hK
      try simp only [List.getElem_toArray, List.getElem_cons_succ, List.getElem_cons_zero, Act.put, List.setIfInBounds_toArray, List.set_cons_zero, List.set_cons_succ]
      refine wpAnyH_take (i := 10) (v := ?ve19) rfl (by kernel_rfl) (by kernel_rfl) (by kernel_rfl) (fun _ _ _ h => h) (Or.inl ⟨by rfl, ?ye19⟩) HSws11.out ?re19
      case ye19 => (intro w' hSw; clear hSw; go_simp; try with_reducible rfl)
      simp only [List.getElem_toArray, List.getElem_cons_succ, List.getElem_cons_zero, Act.put, List.setIfInBounds_toArray, List.set_cons_zero, List.set_cons_succ]
      refine wpAnyH_take (i := 11) (v := ?ve20) rfl (by kernel_rfl) (by kernel_rfl) (by kernel_rfl) (fun _ _ _ h => h) (Or.inl ⟨by rfl, ?ye20⟩) HSws11.out ?re20
      case ye20 => (intro w' hSw; clear hSw; go_simp; try with_reducible rfl)
      simp only [List.getElem_toArray, List.getElem_cons_succ, List.getElem_cons_zero, Act.put, List.setIfInBounds_toArray, List.set_cons_zero, List.set_cons_succ]
      refine wpAnyH_done (by kernel_rfl) ?_ _
      exact ⟨(qwl9, g, wd5.heap.size), rfl, Lib.hid ⟨HTRws11.out, HNDws11.out, HSws11.out⟩⟩
  case refine_2 =>
    rintro ⟨q5, g5, b5⟩ w6 H5
    simp only [List.setIfInBounds_toArray, List.set_cons_succ, List.set_cons_zero]
    generalize (⟨g5, 0, none⟩ : Addr) = a5 at *
    have HTR := Lib.hid H5.out.1; have HN2' := Lib.hid H5.out.2.1; have HD6 := Lib.hid H5.out.2.2
    have HC6 : Hid (Below W0.heap.size W0 w6) := Lib.hid (HWd.out.trans (HD6.out.mono HWd.out.size))
    have HLV6 : Hid (Ints Any w6 AL nl cl (leavesF ns d)) := Lib.hid ((HLV.out.below (Below.refl w4.heap.size w4).drew).below (HD6.out.mono (Nat.le_refl _)))
    have hR2 : Right ns2 d2 := by
      have h := add_right HR.out (leafN_right nb) (by rw [HX.out.2.1]; exact H6.out)
      rw [HX.out.2.2, HX.out.2.1] at h
      exact h
    have HR2 := Lib.hid hR2
    have HLT := Lib.hid HTR.out.lt
    obtain ⟨f3, hf3⟩ : ∃ x, remF ns2 d2 f2 = x := ⟨_, rfl⟩
    obtain ⟨d3, hd3⟩ : ∃ x, remD ns2 d2 f2 = x := ⟨_, rfl⟩
    have hth : There ns2 d2 (f2 : Int) := by
      have h := add_new HR.out (leafN_right nb)
      rw [HX.out.2.2, HX.out.2.1, HX.out.1] at h
      exact h
    have hR3 : Right f3 d3 := by rw [← hf3, ← hd3]; exact rem_right hR2 (there_nat.1 hth).1
    have HR3 := Lib.hid hR3
    have HTH := Lib.hid hth
    have HF3 := Lib.hid (And.intro hf3 hd3)
    obtain ⟨LV, hLV⟩ : ∃ x, leavesF ns d = x := ⟨_, rfl⟩
    obtain ⟨LV2, hLV2⟩ : ∃ x, leavesF ns2 d2 = x := ⟨_, rfl⟩
    have HLs := Lib.hid (And.intro hLV hLV2)
    have C8 := Lib.hid fun W h1 h2 => leaves_any d2 (some a5) N2 N2 ns2 W h1 h2
    rw [leavesT_yes hR2, hLV2] at C8
    rw [hLV] at HLV6
    have C9 := Lib.hid fun W h1 h2 => remove_yes d2 (some a5) N2 N2 ns2 f2 W h1 h2 hR2 hth
    rw [hf3, hd3] at C9
    clear hR2 hR3 hth hLV hLV2 hf3 hd3 H5
    obtain ⟨s0, s1⟩ := (HTR.out).cs
    go_wp2_with fail
    refine (C8.out _ HN2'.out (HT.out.below HC6.out).sp).mono ?_
    rintro e' w8 ⟨AM, nm, cm, rfl, hX, hb⟩
    have HD8 := Lib.hid hb; have HM8 := Lib.hid hX.any
    have HC8 := Lib.hid (HC6.out.trans (hb.mono HC6.out.size))
    clear hb hX s0 s1
    obtain ⟨s0, s1⟩ := (HTR.out.below HD8.out HLT.out).cs
    go_wp2_with fail
    refine (C9.out _ (HN2'.out.below HD8.out) (HT.out.below HC8.out).sp).mono ?_
    rintro e' w9 ⟨g9, n9, c9, rfl, hN9, hg9, hb⟩
    generalize (⟨g9, 0, none⟩ : Addr) = a9 at *
    have HD9 := Lib.hid (HD8.out.trans (hb.mono HD8.out.size)); have HN9 := Lib.hid hN9
    have HC9 := Lib.hid (HC8.out.trans (hb.mono HC8.out.size))
    have HM9 := Lib.hid (HM8.out.below hb)
    clear hb hN9 hg9 s0 s1 HM8
    obtain ⟨w10, hw10, g10, hb10⟩ := one_new w9 (d3 : Int) (some a9) n9 c9
    have HD10 := Lib.hid (HD9.out.trans (hb10.mono HD9.out.size)); have HN10 := Lib.hid (HN9.out.below hb10)
    have HC10 := Lib.hid (HC9.out.trans (hb10.mono HC9.out.size)); have HM10 := Lib.hid (HM9.out.below hb10)
    have HG10 := Lib.hid g10; have HLT10 := Lib.hid g10.lt
    have B9 : Hid (b5 < w9.heap.size) := Lib.hid (Nat.lt_of_lt_of_le HLT.out HD9.out.size)
    clear g10 hb10 HN9 HM9
    obtain ⟨s0, s1⟩ := (HTR.out.below HD10.out HLT.out).cs
    go_wp2_with fail
    clear hw10
    refine (refRight_is d2 (some a5) N2 N2 ns2 true _ (HN2'.out.below HD10.out) (by simp; exact ⟨d2, rfl, HR2.out⟩)).mono ?_
    rintro e' w11 ⟨rfl, hb⟩
    have HE11 := Lib.hid hb
    have HD11 := Lib.hid (HD10.out.trans (hb.mono HD10.out.size))
    clear hb s0 s1
    obtain ⟨s0, s1⟩ := (HG10.out.below HE11.out HLT10.out).cs
    go_wp2_with fail
    refine (refRight_is d3 (some a9) n9 c9 f3 true _ (HN10.out.below HE11.out) (by simp; exact ⟨d3, rfl, HR3.out⟩)).mono ?_
    rintro e' w12 ⟨rfl, hb⟩
    have HE12 := Lib.hid (HE11.out.trans (hb.mono HE11.out.size))
    have HD12 := Lib.hid (HD10.out.trans (HE12.out.mono HD10.out.size))
    clear hb s0 s1 HE11 HD11
    obtain ⟨s0, s1⟩ := (HTR.out.below HD12.out HLT.out).cs
    obtain ⟨t0, t1⟩ := (HG1.out.below (HC10.out.trans (HE12.out.mono HC10.out.size)) HL1.out).cs
    have z0 : decide ((f2 : Int) < 0) = false := by simp
    have f2d := there_nat.1 HTH.out
    obtain ⟨m2, hm2⟩ : ∃ m, 2 * f2 = m := ⟨_, rfl⟩
    have HM2 := Lib.hid hm2
    have hp2 : 2 ^ d2 ≤ 64 := by have := H6.out; exact Nat.le_trans (Nat.pow_le_pow_right (by decide) this) (by decide)
    have hN2p : N2 = 2 * 2 ^ d2 - 1 := by rw [← HN2.out, Nat.pow_succ]; omega
    have y1 : IntKind.i64.wrap (2 * (f2 : Int)) = (m2 : Int) := by rw [IntKind.wrap_i64]; omega
    have y2 : IntKind.i64.wrap (N2 : Int) = N2 := by rw [IntKind.wrap_i64]; omega
    have z1 : ¬ (N2 : Int) ≤ (m2 : Int) := by omega
    have z2 : decide ((N2 : Int) ≤ (m2 : Int)) = false := by simp only [decide_eq_false_iff_not]; exact z1
    have HZ1 := Lib.hid (And.intro z1 (And.intro y1 (And.intro y2 (And.intro hp2 hN2p))))
    clear f2d hp2 hN2p hm2
    go_wp2_with fail
    refine (refLeaves_any d A n c ns _ (HN.out.below (HC10.out.trans (HE12.out.mono HC10.out.size)))).mono ?_
    rw [leavesT_yes HR.out, HLs.out.1]
    rintro e' w13 ⟨AP, np, cp, rfl, hX, hb⟩
    have HE13 := Lib.hid (HE12.out.trans (hb.mono HE12.out.size))
    have HD13 := Lib.hid (HD10.out.trans (HE13.out.mono HD10.out.size))
    have HP := Lib.hid hX.any
    clear hb hX t0 t1 s0 s1 HD12
    go_wp2_with fail
    refine (sameInts_is AL AP nl np cl cp LV LV true _ (HLV6.out.below HD13.out) HP.out (by simp)).mono ?_
    rintro e' w14 ⟨rfl, hb⟩
    have HE14 := Lib.hid (HE13.out.trans (hb.mono HE13.out.size))
    have HD14 := Lib.hid (HD10.out.trans (HE14.out.mono HD10.out.size))
    clear hb HE13 HD13 HP HE12
    clear z0 z1 z2 y1 y2
    have hNL : LV.length = nl := HLV6.out.len
    have hNM : LV2.length = nm := HM10.out.len
    have hLL : LV2.length = LV.length + 1 := by
      have h := add_leaves HR.out (leafN_right nb)
      rw [HX.out.2.2, HX.out.2.1, HLs.out.1, HLs.out.2] at h
      exact h
    have hnl : nl ≤ 9223372036854775806 := by
      have h1 := HM10.out.2.1; have h2 := HM10.out.2.2.1; omega
    have y1 : IntKind.i64.wrap (nl : Int) = nl := by rw [IntKind.wrap_i64]; omega
    have y2 : IntKind.i64.wrap (nm : Int) = nm := by rw [IntKind.wrap_i64]; omega
    have y3 : IntKind.i64.wrap ((nl : Int) + 1) = (nm : Int) := by rw [IntKind.wrap_i64]; omega
    have y4 : (nm : Int) = (nl : Int) + 1 := by omega
    have HNM := Lib.hid (And.intro hNL (And.intro hNM hLL)); have HNL := Lib.hid hnl
    clear hNL hNM hLL hnl
    have HDd : Hid (Below w6.heap.size w6 w14.drew) := Lib.hid HD14.out.drew
    have HEd : Hid (Below w10.heap.size w10 w14.drew) := Lib.hid HE14.out.drew
    have HCd : Hid (Below W0.heap.size W0 w14.drew) := Lib.hid (HC6.out.trans (HDd.out.mono HC6.out.size))
    have hmn : m2 < N2 := by have := HZ1.out.1; omega
    obtain ⟨qn, hat, hin⟩ := (HN2'.out.below HDd.out).at m2 hmn
    have hnew : nd ns2 m2 = leafN nb := by
      have h := addF_leaf HR.out (leafN nb) f2 (by have := (there_nat.1 HTH.out).1; rw [HX.out.2.1]; exact this)
      rw [HX.out.2.2, HX.out.1, if_pos rfl, HM2.out] at h
      exact h
    rw [hnew] at hin
    have HNA : Hid (∀ W, Below w14.drew.heap.size w14.drew W → NdAt W (a5.add (m2 * 6)) qn) := Lib.hid fun W hb => hat.of_block (hb.block _ (block_lt_of_cell hat.cells.1))
    have HIN := Lib.hid hin
    have C34 := Lib.hid fun W h1 h2 => leaves_any d3 (some a9) n9 c9 f3 W h1 h2
    have hal : leavesF f3 d3 = LV := by
      have h := added_leaves HR.out (leafN_right nb) (by rw [HX.out.2.1]; exact H6.out)
      rw [HX.out.2.2, HX.out.2.1, HX.out.1, HF3.out.1, HF3.out.2, HLs.out.1] at h
      exact h
    rw [leavesT_yes HR3.out, hal] at C34
    have yj0 : ¬ (m2 : Int) < 0 := by omega
    have yj1 : ¬ (m2 : Int) ≥ (N2 : Int) := by omega
    have yj2 : (m2 : Int) < (N2 : Int) := by omega
    have yj3 : IntKind.i64.wrap (2 * (f2 : Int)) = (m2 : Int) := HZ1.out.2.1
    have yj4 : ((nm : Int) != (nm : Int)) = false := by simp
    clear hat hin hnew hal
    go_wp2_with fail
    try simp only [Act.put]
    refine Wr.region_calm ?_
    refine wp_region_any (by kernel_rfl) ?_
    change wpAny _ _ _ _ _ _ _ (World.drew w14)
    generalize World.drew w14 = wdc at *
    have HSwdc : Hid (Below wdc.heap.size wdc wdc) := Lib.hid (Below.refl _ _)
    refine wpAny_of_held (S := fun W => Below wdc.heap.size wdc W) _ _ _ _ ?_
    refine wpAnyH_take (i := 0) (v := ?ve21) rfl (by kernel_rfl) (by kernel_rfl) (by kernel_rfl) (fun _ _ _ h => h) (Or.inl ⟨by rfl, ?ye21⟩) HSwdc.out ?re21
    case ye21 => (intro w' hSw; have hq_wdc : Below wdc.heap.size wdc w' := hSw; have hq := hq_wdc; obtain ⟨s0, s1⟩ := (HTR.out.below (HDd.out.trans (hq.mono HDd.out.size)) HLT.out).cs; obtain ⟨r0, r1⟩ := (HG10.out.below (HEd.out.trans (hq.mono HEd.out.size)) HLT10.out).cs; obtain ⟨p0, p1, p2, p3, p4, p5⟩ := (HNA.out _ hq).cells; clear hSw; try clear hq hq_wdc; go_simp; try with_reducible rfl)
    simp only [List.getElem_toArray, List.getElem_cons_succ, List.getElem_cons_zero, Act.put, List.setIfInBounds_toArray, List.set_cons_zero, List.set_cons_succ]
    refine wpAnyH_ready (rs := [1]) (by kernel_rfl) (by simp) ?_
    refine AllReadyH.cons rfl (fun K' hK => ?_) AllReadyH.nil
    simp only [List.getElem_toArray, List.getElem_cons_succ, List.getElem_cons_zero]
    go_simp
    refine (right_is d2 (some a5) N2 N2 ns2 true _ (HN2'.out.below HDd.out) (HT.out.below HCd.out).sp (by simp; exact ⟨d2, rfl, HR2.out⟩)).mono ?_
    rintro e' ua1 ⟨rfl, hb⟩
    have HU_wdc_ua1 := Lib.hid hb
    clear hb
    refine hK.out _ _ HU_wdc_ua1.out (fun _ => ?_)
    clear hK
    try simp only [List.getElem_toArray, List.getElem_cons_succ, List.getElem_cons_zero, Act.put, List.setIfInBounds_toArray, List.set_cons_zero, List.set_cons_succ]
    have HSua1 : Hid (Below ua1.heap.size ua1 ua1) := Lib.hid (Below.refl _ _)
    refine Sha.wpAnyH_more (S' := fun W => Below ua1.heap.size ua1 W) (fun W h => HU_wdc_ua1.out.trans (h.mono HU_wdc_ua1.out.size)) _ _ _ _ ?_
    refine wpAnyH_take (i := 2) (v := ?ve22) rfl (by kernel_rfl) (by kernel_rfl) (by kernel_rfl) (fun _ _ _ h => h) (Or.inl ⟨by rfl, ?ye22⟩) HSua1.out ?re22
    case ye22 => (intro w' hSw; clear hSw; go_simp; try with_reducible rfl)
    simp only [List.getElem_toArray, List.getElem_cons_succ, List.getElem_cons_zero, Act.put, List.setIfInBounds_toArray, List.set_cons_zero, List.set_cons_succ]
    refine wpAnyH_take (i := 3) (v := ?ve23) rfl (by kernel_rfl) (by kernel_rfl) (by kernel_rfl) (fun _ _ _ h => h) (Or.inl ⟨by rfl, ?ye23⟩) HSua1.out ?re23
    case ye23 => (intro w' hSw; clear hSw; go_simp; try with_reducible rfl)
    simp only [List.getElem_toArray, List.getElem_cons_succ, List.getElem_cons_zero, Act.put, List.setIfInBounds_toArray, List.set_cons_zero, List.set_cons_succ]
    refine wpAnyH_take (i := 4) (v := ?ve24) rfl (by kernel_rfl) (by kernel_rfl) (by kernel_rfl) (fun _ _ _ h => h) (Or.inl ⟨by rfl, ?ye24⟩) HSua1.out ?re24
    case ye24 => (intro w' hSw; clear hSw; go_simp; try with_reducible rfl)
    simp only [List.getElem_toArray, List.getElem_cons_succ, List.getElem_cons_zero, Act.put, List.setIfInBounds_toArray, List.set_cons_zero, List.set_cons_succ]
    refine wpAnyH_take (i := 5) (v := ?ve25) rfl (by kernel_rfl) (by kernel_rfl) (by kernel_rfl) (fun _ _ _ h => h) (Or.inl ⟨by rfl, ?ye25⟩) HSua1.out ?re25
    case ye25 => (intro w' hSw; clear hSw; go_simp; try with_reducible rfl)
    simp only [List.getElem_toArray, List.getElem_cons_succ, List.getElem_cons_zero, Act.put, List.setIfInBounds_toArray, List.set_cons_zero, List.set_cons_succ]
    refine wpAnyH_take (i := 6) (v := ?ve26) rfl (by kernel_rfl) (by kernel_rfl) (by kernel_rfl) (fun _ _ _ h => h) (Or.inl ⟨by rfl, ?ye26⟩) HSua1.out ?re26
    case ye26 => (intro w' hSw; clear hSw; go_simp; try with_reducible rfl)
    simp only [List.getElem_toArray, List.getElem_cons_succ, List.getElem_cons_zero, Act.put, List.setIfInBounds_toArray, List.set_cons_zero, List.set_cons_succ]
    refine wpAnyH_take (i := 7) (v := ?ve27) rfl (by kernel_rfl) (by kernel_rfl) (by kernel_rfl) (fun _ _ _ h => h) (Or.inl ⟨by rfl, ?ye27⟩) HSua1.out ?re27
    case ye27 => (intro w' hSw; clear hSw; go_simp; try with_reducible rfl)
    simp only [List.getElem_toArray, List.getElem_cons_succ, List.getElem_cons_zero, Act.put, List.setIfInBounds_toArray, List.set_cons_zero, List.set_cons_succ]
    refine wpAnyH_take (i := 8) (v := ?ve28) rfl (by kernel_rfl) (by kernel_rfl) (by kernel_rfl) (fun _ _ _ h => h) (Or.inl ⟨by rfl, ?ye28⟩) HSua1.out ?re28
    case ye28 => (intro w' hSw; clear hSw; go_simp; try with_reducible rfl)
    simp only [List.getElem_toArray, List.getElem_cons_succ, List.getElem_cons_zero, Act.put, List.setIfInBounds_toArray, List.set_cons_zero, List.set_cons_succ]
    refine wpAnyH_take (i := 9) (v := ?ve29) rfl (by kernel_rfl) (by kernel_rfl) (by kernel_rfl) (fun _ _ _ h => h) (Or.inl ⟨by rfl, ?ye29⟩) HSua1.out ?re29
    case ye29 => (intro w' hSw; clear hSw; go_simp; try with_reducible rfl)
    simp only [List.getElem_toArray, List.getElem_cons_succ, List.getElem_cons_zero, Act.put, List.setIfInBounds_toArray, List.set_cons_zero, List.set_cons_succ]
    refine wpAnyH_take (i := 10) (v := ?ve30) rfl (by kernel_rfl) (by kernel_rfl) (by kernel_rfl) (fun _ _ _ h => h) (Or.inl ⟨by rfl, ?ye30⟩) HSua1.out ?re30
    case ye30 => (intro w' hSw; clear hSw; go_simp; try with_reducible rfl)
    simp only [List.getElem_toArray, List.getElem_cons_succ, List.getElem_cons_zero, Act.put, List.setIfInBounds_toArray, List.set_cons_zero, List.set_cons_succ]
    refine wpAnyH_take (i := 11) (v := ?ve31) rfl (by kernel_rfl) (by kernel_rfl) (by kernel_rfl) (fun _ _ _ h => h) (Or.inl ⟨by rfl, ?ye31⟩) HSua1.out ?re31
    case ye31 => (intro w' hSw; clear hSw; go_simp; try with_reducible rfl)
    simp only [List.getElem_toArray, List.getElem_cons_succ, List.getElem_cons_zero, Act.put, List.setIfInBounds_toArray, List.set_cons_zero, List.set_cons_succ]
    refine wpAnyH_take (i := 12) (v := ?ve32) rfl (by kernel_rfl) (by kernel_rfl) (by kernel_rfl) (fun _ _ _ h => h) (Or.inl ⟨by rfl, ?ye32⟩) HSua1.out ?re32
    case ye32 => (intro w' hSw; clear hSw; go_simp; try with_reducible rfl)
    simp only [List.getElem_toArray, List.getElem_cons_succ, List.getElem_cons_zero, Act.put, List.setIfInBounds_toArray, List.set_cons_zero, List.set_cons_succ]
    refine wpAnyH_take (i := 13) (v := ?ve33) rfl (by kernel_rfl) (by kernel_rfl) (by kernel_rfl) (fun _ _ _ h => h) (Or.inl ⟨by rfl, ?ye33⟩) HSua1.out ?re33
    case ye33 => (intro w' hSw; have hq_ua1 : Below ua1.heap.size ua1 w' := hSw; have hq_wdc : Below wdc.heap.size wdc w' := HU_wdc_ua1.out.trans (hSw.mono HU_wdc_ua1.out.size); have hq := hq_wdc; obtain ⟨s0, s1⟩ := (HTR.out.below (HDd.out.trans (hq.mono HDd.out.size)) HLT.out).cs; obtain ⟨r0, r1⟩ := (HG10.out.below (HEd.out.trans (hq.mono HEd.out.size)) HLT10.out).cs; obtain ⟨p0, p1, p2, p3, p4, p5⟩ := (HNA.out _ hq).cells; clear hSw; try clear hq hq_wdc hq_ua1; go_simp; try with_reducible rfl)
    simp only [List.getElem_toArray, List.getElem_cons_succ, List.getElem_cons_zero, Act.put, List.setIfInBounds_toArray, List.set_cons_zero, List.set_cons_succ]
    refine wpAnyH_take (i := 14) (v := ?ve34) rfl (by kernel_rfl) (by kernel_rfl) (by kernel_rfl) (fun _ _ _ h => h) (Or.inl ⟨by rfl, ?ye34⟩) HSua1.out ?re34
    case ye34 => (intro w' hSw; clear hSw; go_simp; try with_reducible rfl)
    simp only [List.getElem_toArray, List.getElem_cons_succ, List.getElem_cons_zero, Act.put, List.setIfInBounds_toArray, List.set_cons_zero, List.set_cons_succ]
    refine wpAnyH_take (i := 15) (v := ?ve35) rfl (by kernel_rfl) (by kernel_rfl) (by kernel_rfl) (fun _ _ _ h => h) (Or.inl ⟨by rfl, ?ye35⟩) HSua1.out ?re35
    case ye35 => (intro w' hSw; clear hSw; go_simp; try with_reducible rfl)
    simp only [List.getElem_toArray, List.getElem_cons_succ, List.getElem_cons_zero, Act.put, List.setIfInBounds_toArray, List.set_cons_zero, List.set_cons_succ]
    refine wpAnyH_take (i := 16) (v := ?ve36) rfl (by kernel_rfl) (by kernel_rfl) (by kernel_rfl) (fun _ _ _ h => h) (Or.inl ⟨by rfl, ?ye36⟩) HSua1.out ?re36
    case ye36 => (intro w' hSw; clear hSw; go_simp; try with_reducible rfl)
    simp only [List.getElem_toArray, List.getElem_cons_succ, List.getElem_cons_zero, Act.put, List.setIfInBounds_toArray, List.set_cons_zero, List.set_cons_succ]
    refine wpAnyH_take (i := 17) (v := ?ve37) rfl (by kernel_rfl) (by kernel_rfl) (by kernel_rfl) (fun _ _ _ h => h) (Or.inl ⟨by rfl, ?ye37⟩) HSua1.out ?re37
    case ye37 => (intro w' hSw; have hq_ua1 : Below ua1.heap.size ua1 w' := hSw; have hq_wdc : Below wdc.heap.size wdc w' := HU_wdc_ua1.out.trans (hSw.mono HU_wdc_ua1.out.size); have hq := hq_wdc; obtain ⟨s0, s1⟩ := (HTR.out.below (HDd.out.trans (hq.mono HDd.out.size)) HLT.out).cs; obtain ⟨r0, r1⟩ := (HG10.out.below (HEd.out.trans (hq.mono HEd.out.size)) HLT10.out).cs; obtain ⟨p0, p1, p2, p3, p4, p5⟩ := (HNA.out _ hq).cells; clear hSw; try clear hq hq_wdc hq_ua1; go_simp; try with_reducible rfl)
    simp only [List.getElem_toArray, List.getElem_cons_succ, List.getElem_cons_zero, Act.put, List.setIfInBounds_toArray, List.set_cons_zero, List.set_cons_succ]
    refine wpAnyH_take (i := 18) (v := ?ve38) rfl (by kernel_rfl) (by kernel_rfl) (by kernel_rfl) (fun _ _ _ h => h) (Or.inl ⟨by rfl, ?ye38⟩) HSua1.out ?re38
    case ye38 => (intro w' hSw; clear hSw; go_simp; try with_reducible rfl)
    simp only [List.getElem_toArray, List.getElem_cons_succ, List.getElem_cons_zero, Act.put, List.setIfInBounds_toArray, List.set_cons_zero, List.set_cons_succ]
    refine wpAnyH_ready (rs := [19]) (by kernel_rfl) (by simp) ?_
    refine AllReadyH.cons rfl (fun K' hK => ?_) AllReadyH.nil
    simp only [List.getElem_toArray, List.getElem_cons_succ, List.getElem_cons_zero]
    go_simp
    refine (leaf_any nb hnb _).mono ?_
    rintro e' ua2 ⟨ql, rfl, hq, hqf, hb⟩
    have HU_ua1_ua2 := Lib.hid hb
    have HQL := Lib.hid hq; clear hq hqf hb
    have HU_wdc_ua2 := Lib.hid (HU_wdc_ua1.out.trans (HU_ua1_ua2.out.mono HU_wdc_ua1.out.size))
    refine hK.out _ _ HU_ua1_ua2.out (fun _ => ?_)
    clear hK
    try simp only [List.getElem_toArray, List.getElem_cons_succ, List.getElem_cons_zero, Act.put, List.setIfInBounds_toArray, List.set_cons_zero, List.set_cons_succ]
    have HSua2 : Hid (Below ua2.heap.size ua2 ua2) := Lib.hid (Below.refl _ _)
    refine Sha.wpAnyH_more (S' := fun W => Below ua2.heap.size ua2 W) (fun W h => HU_ua1_ua2.out.trans (h.mono HU_ua1_ua2.out.size)) _ _ _ _ ?_
    refine wpAnyH_ready (rs := [20]) (by kernel_rfl) (by simp) ?_
    refine AllReadyH.cons rfl (fun K' hK => ?_) AllReadyH.nil
    simp only [List.getElem_toArray, List.getElem_cons_succ, List.getElem_cons_zero]
    go_simp
    refine (sameNode_is qn ql (leafN nb) (leafN nb) true _ (HIN.out.below HU_wdc_ua2.out) HQL.out (by simp)).mono ?_
    rintro e' ua3 ⟨rfl, hb⟩
    have HU_ua2_ua3 := Lib.hid hb
    clear hb
    have HU_ua1_ua3 := Lib.hid (HU_ua1_ua2.out.trans (HU_ua2_ua3.out.mono HU_ua1_ua2.out.size))
    have HU_wdc_ua3 := Lib.hid (HU_wdc_ua2.out.trans (HU_ua2_ua3.out.mono HU_wdc_ua2.out.size))
    refine hK.out _ _ HU_ua2_ua3.out (fun _ => ?_)
    clear hK
    try simp only [List.getElem_toArray, List.getElem_cons_succ, List.getElem_cons_zero, Act.put, List.setIfInBounds_toArray, List.set_cons_zero, List.set_cons_succ]
    have HSua3 : Hid (Below ua3.heap.size ua3 ua3) := Lib.hid (Below.refl _ _)
    refine Sha.wpAnyH_more (S' := fun W => Below ua3.heap.size ua3 W) (fun W h => HU_ua2_ua3.out.trans (h.mono HU_ua2_ua3.out.size)) _ _ _ _ ?_
    refine wpAnyH_take (i := 21) (v := ?ve39) rfl (by kernel_rfl) (by kernel_rfl) (by kernel_rfl) (fun _ _ _ h => h) (Or.inl ⟨by rfl, ?ye39⟩) HSua3.out ?re39
    case ye39 => (intro w' hSw; clear hSw; go_simp; try with_reducible rfl)
    simp only [List.getElem_toArray, List.getElem_cons_succ, List.getElem_cons_zero, Act.put, List.setIfInBounds_toArray, List.set_cons_zero, List.set_cons_succ]
    refine wpAnyH_take (i := 22) (v := ?ve40) rfl (by kernel_rfl) (by kernel_rfl) (by kernel_rfl) (fun _ _ _ h => h) (Or.inl ⟨by rfl, ?ye40⟩) HSua3.out ?re40
    case ye40 => (intro w' hSw; clear hSw; go_simp; try with_reducible rfl)
    simp only [List.getElem_toArray, List.getElem_cons_succ, List.getElem_cons_zero, Act.put, List.setIfInBounds_toArray, List.set_cons_zero, List.set_cons_succ]
    refine wpAnyH_take (i := 23) (v := ?ve41) rfl (by kernel_rfl) (by kernel_rfl) (by kernel_rfl) (fun _ _ _ h => h) (Or.inl ⟨by rfl, ?ye41⟩) HSua3.out ?re41
    case ye41 => (intro w' hSw; clear hSw; go_simp; try with_reducible rfl)
    simp only [List.getElem_toArray, List.getElem_cons_succ, List.getElem_cons_zero, Act.put, List.setIfInBounds_toArray, List.set_cons_zero, List.set_cons_succ]
    refine wpAnyH_take (i := 24) (v := ?ve42) rfl (by kernel_rfl) (by kernel_rfl) (by kernel_rfl) (fun _ _ _ h => h) (Or.inl ⟨by rfl, ?ye42⟩) HSua3.out ?re42
    case ye42 => (intro w' hSw; clear hSw; go_simp; try with_reducible rfl)
    simp only [List.getElem_toArray, List.getElem_cons_succ, List.getElem_cons_zero, Act.put, List.setIfInBounds_toArray, List.set_cons_zero, List.set_cons_succ]
    refine wpAnyH_take (i := 25) (v := ?ve43) rfl (by kernel_rfl) (by kernel_rfl) (by kernel_rfl) (fun _ _ _ h => h) (Or.inl ⟨by rfl, ?ye43⟩) HSua3.out ?re43
    case ye43 => (intro w' hSw; clear hSw; go_simp; try with_reducible rfl)
    simp only [List.getElem_toArray, List.getElem_cons_succ, List.getElem_cons_zero, Act.put, List.setIfInBounds_toArray, List.set_cons_zero, List.set_cons_succ]
    refine wpAnyH_take (i := 26) (v := ?ve44) rfl (by kernel_rfl) (by kernel_rfl) (by kernel_rfl) (fun _ _ _ h => h) (Or.inl ⟨by rfl, ?ye44⟩) HSua3.out ?re44
    case ye44 => (intro w' hSw; clear hSw; go_simp; try with_reducible rfl)
    simp only [List.getElem_toArray, List.getElem_cons_succ, List.getElem_cons_zero, Act.put, List.setIfInBounds_toArray, List.set_cons_zero, List.set_cons_succ]
    refine wpAnyH_take (i := 27) (v := ?ve45) rfl (by kernel_rfl) (by kernel_rfl) (by kernel_rfl) (fun _ _ _ h => h) (Or.inl ⟨by rfl, ?ye45⟩) HSua3.out ?re45
    case ye45 => (intro w' hSw; clear hSw; go_simp; try with_reducible rfl)
    simp only [List.getElem_toArray, List.getElem_cons_succ, List.getElem_cons_zero, Act.put, List.setIfInBounds_toArray, List.set_cons_zero, List.set_cons_succ]
    refine wpAnyH_take (i := 28) (v := ?ve46) rfl (by kernel_rfl) (by kernel_rfl) (by kernel_rfl) (fun _ _ _ h => h) (Or.inl ⟨by rfl, ?ye46⟩) HSua3.out ?re46
    case ye46 => (intro w' hSw; have hq_ua3 : Below ua3.heap.size ua3 w' := hSw; have hq_ua2 : Below ua2.heap.size ua2 w' := HU_ua2_ua3.out.trans (hSw.mono HU_ua2_ua3.out.size); have hq_ua1 : Below ua1.heap.size ua1 w' := HU_ua1_ua3.out.trans (hSw.mono HU_ua1_ua3.out.size); have hq_wdc : Below wdc.heap.size wdc w' := HU_wdc_ua3.out.trans (hSw.mono HU_wdc_ua3.out.size); have hq := hq_wdc; obtain ⟨s0, s1⟩ := (HTR.out.below (HDd.out.trans (hq.mono HDd.out.size)) HLT.out).cs; obtain ⟨r0, r1⟩ := (HG10.out.below (HEd.out.trans (hq.mono HEd.out.size)) HLT10.out).cs; obtain ⟨p0, p1, p2, p3, p4, p5⟩ := (HNA.out _ hq).cells; clear hSw; try clear hq hq_wdc hq_ua1 hq_ua2 hq_ua3; go_simp; try with_reducible rfl)
    simp only [List.getElem_toArray, List.getElem_cons_succ, List.getElem_cons_zero, Act.put, List.setIfInBounds_toArray, List.set_cons_zero, List.set_cons_succ]
    refine wpAnyH_ready (rs := [29]) (by kernel_rfl) (by simp) ?_
    refine AllReadyH.cons rfl (fun K' hK => ?_) AllReadyH.nil
    simp only [List.getElem_toArray, List.getElem_cons_succ, List.getElem_cons_zero]
    go_simp
    refine (right_is d3 (some a9) n9 c9 f3 true _ (HN10.out.below (HEd.out.trans (HU_wdc_ua3.out.mono HEd.out.size))) (HT.out.below (HCd.out.trans (HU_wdc_ua3.out.mono HCd.out.size))).sp (by simp; exact ⟨d3, rfl, HR3.out⟩)).mono ?_
    rintro e' ua4 ⟨rfl, hb⟩
    have HU_ua3_ua4 := Lib.hid hb
    clear hb
    have HU_ua2_ua4 := Lib.hid (HU_ua2_ua3.out.trans (HU_ua3_ua4.out.mono HU_ua2_ua3.out.size))
    have HU_ua1_ua4 := Lib.hid (HU_ua1_ua3.out.trans (HU_ua3_ua4.out.mono HU_ua1_ua3.out.size))
    have HU_wdc_ua4 := Lib.hid (HU_wdc_ua3.out.trans (HU_ua3_ua4.out.mono HU_wdc_ua3.out.size))
    refine hK.out _ _ HU_ua3_ua4.out (fun _ => ?_)
    clear hK
    try simp only [List.getElem_toArray, List.getElem_cons_succ, List.getElem_cons_zero, Act.put, List.setIfInBounds_toArray, List.set_cons_zero, List.set_cons_succ]
    have HSua4 : Hid (Below ua4.heap.size ua4 ua4) := Lib.hid (Below.refl _ _)
    refine Sha.wpAnyH_more (S' := fun W => Below ua4.heap.size ua4 W) (fun W h => HU_ua3_ua4.out.trans (h.mono HU_ua3_ua4.out.size)) _ _ _ _ ?_
    refine wpAnyH_take (i := 30) (v := ?ve47) rfl (by kernel_rfl) (by kernel_rfl) (by kernel_rfl) (fun _ _ _ h => h) (Or.inl ⟨by rfl, ?ye47⟩) HSua4.out ?re47
    case ye47 => (intro w' hSw; clear hSw; go_simp; try with_reducible rfl)
    simp only [List.getElem_toArray, List.getElem_cons_succ, List.getElem_cons_zero, Act.put, List.setIfInBounds_toArray, List.set_cons_zero, List.set_cons_succ]
    refine wpAnyH_take (i := 31) (v := ?ve48) rfl (by kernel_rfl) (by kernel_rfl) (by kernel_rfl) (fun _ _ _ h => h) (Or.inl ⟨by rfl, ?ye48⟩) HSua4.out ?re48
    case ye48 => (intro w' hSw; clear hSw; go_simp; try with_reducible rfl)
    simp only [List.getElem_toArray, List.getElem_cons_succ, List.getElem_cons_zero, Act.put, List.setIfInBounds_toArray, List.set_cons_zero, List.set_cons_succ]
    refine wpAnyH_take (i := 32) (v := ?ve49) rfl (by kernel_rfl) (by kernel_rfl) (by kernel_rfl) (fun _ _ _ h => h) (Or.inl ⟨by rfl, ?ye49⟩) HSua4.out ?re49
    case ye49 => (intro w' hSw; clear hSw; go_simp; try with_reducible rfl)
    simp only [List.getElem_toArray, List.getElem_cons_succ, List.getElem_cons_zero, Act.put, List.setIfInBounds_toArray, List.set_cons_zero, List.set_cons_succ]
    refine wpAnyH_take (i := 33) (v := ?ve50) rfl (by kernel_rfl) (by kernel_rfl) (by kernel_rfl) (fun _ _ _ h => h) (Or.inl ⟨by rfl, ?ye50⟩) HSua4.out ?re50
    case ye50 => (intro w' hSw; have hq_ua4 : Below ua4.heap.size ua4 w' := hSw; have hq_ua3 : Below ua3.heap.size ua3 w' := HU_ua3_ua4.out.trans (hSw.mono HU_ua3_ua4.out.size); have hq_ua2 : Below ua2.heap.size ua2 w' := HU_ua2_ua4.out.trans (hSw.mono HU_ua2_ua4.out.size); have hq_ua1 : Below ua1.heap.size ua1 w' := HU_ua1_ua4.out.trans (hSw.mono HU_ua1_ua4.out.size); have hq_wdc : Below wdc.heap.size wdc w' := HU_wdc_ua4.out.trans (hSw.mono HU_wdc_ua4.out.size); have hq := hq_wdc; obtain ⟨s0, s1⟩ := (HTR.out.below (HDd.out.trans (hq.mono HDd.out.size)) HLT.out).cs; obtain ⟨r0, r1⟩ := (HG10.out.below (HEd.out.trans (hq.mono HEd.out.size)) HLT10.out).cs; obtain ⟨p0, p1, p2, p3, p4, p5⟩ := (HNA.out _ hq).cells; clear hSw; try clear hq hq_wdc hq_ua1 hq_ua2 hq_ua3 hq_ua4; go_simp; try with_reducible rfl)
    simp only [List.getElem_toArray, List.getElem_cons_succ, List.getElem_cons_zero, Act.put, List.setIfInBounds_toArray, List.set_cons_zero, List.set_cons_succ]
    refine wpAnyH_take (i := 35) (v := ?ve51) rfl (by kernel_rfl) (by kernel_rfl) (by kernel_rfl) (fun _ _ _ h => h) (Or.inl ⟨by rfl, ?ye51⟩) HSua4.out ?re51
    case ye51 => (intro w' hSw; clear hSw; go_simp; try with_reducible rfl)
    simp only [List.getElem_toArray, List.getElem_cons_succ, List.getElem_cons_zero, Act.put, List.setIfInBounds_toArray, List.set_cons_zero, List.set_cons_succ]
    refine wpAnyH_ready (rs := [34]) (by kernel_rfl) (by simp) ?_
    refine AllReadyH.cons rfl (fun K' hK => ?_) AllReadyH.nil
    simp only [List.getElem_toArray, List.getElem_cons_succ, List.getElem_cons_zero]
    go_simp
    refine (C34.out _ (HN10.out.below (HEd.out.trans (HU_wdc_ua4.out.mono HEd.out.size))) (HT.out.below (HCd.out.trans (HU_wdc_ua4.out.mono HCd.out.size))).sp).mono ?_
    rintro e' ua5 ⟨AQ, nq, cq, rfl, hX, hb⟩
    have HU_ua4_ua5 := Lib.hid hb
    have HXQ := Lib.hid hX.any; clear hb hX
    have HU_ua3_ua5 := Lib.hid (HU_ua3_ua4.out.trans (HU_ua4_ua5.out.mono HU_ua3_ua4.out.size))
    have HU_ua2_ua5 := Lib.hid (HU_ua2_ua4.out.trans (HU_ua4_ua5.out.mono HU_ua2_ua4.out.size))
    have HU_ua1_ua5 := Lib.hid (HU_ua1_ua4.out.trans (HU_ua4_ua5.out.mono HU_ua1_ua4.out.size))
    have HU_wdc_ua5 := Lib.hid (HU_wdc_ua4.out.trans (HU_ua4_ua5.out.mono HU_wdc_ua4.out.size))
    refine hK.out _ _ HU_ua4_ua5.out (fun _ => ?_)
    clear hK
    try simp only [List.getElem_toArray, List.getElem_cons_succ, List.getElem_cons_zero, Act.put, List.setIfInBounds_toArray, List.set_cons_zero, List.set_cons_succ]
    have HSua5 : Hid (Below ua5.heap.size ua5 ua5) := Lib.hid (Below.refl _ _)
    refine Sha.wpAnyH_more (S' := fun W => Below ua5.heap.size ua5 W) (fun W h => HU_ua4_ua5.out.trans (h.mono HU_ua4_ua5.out.size)) _ _ _ _ ?_
    refine wpAnyH_ready (rs := [36]) (by kernel_rfl) (by simp) ?_
    refine AllReadyH.cons rfl (fun K' hK => ?_) AllReadyH.nil
    simp only [List.getElem_toArray, List.getElem_cons_succ, List.getElem_cons_zero]
    go_simp
    refine (sameInts_is AQ AL nq nl cq cl LV LV true _ HXQ.out (HLV6.out.below (HDd.out.trans (HU_wdc_ua5.out.mono HDd.out.size))) (by simp)).mono ?_
    rintro e' ua6 ⟨rfl, hb⟩
    have HU_ua5_ua6 := Lib.hid hb
    clear hb
    have HU_ua4_ua6 := Lib.hid (HU_ua4_ua5.out.trans (HU_ua5_ua6.out.mono HU_ua4_ua5.out.size))
    have HU_ua3_ua6 := Lib.hid (HU_ua3_ua5.out.trans (HU_ua5_ua6.out.mono HU_ua3_ua5.out.size))
    have HU_ua2_ua6 := Lib.hid (HU_ua2_ua5.out.trans (HU_ua5_ua6.out.mono HU_ua2_ua5.out.size))
    have HU_ua1_ua6 := Lib.hid (HU_ua1_ua5.out.trans (HU_ua5_ua6.out.mono HU_ua1_ua5.out.size))
    have HU_wdc_ua6 := Lib.hid (HU_wdc_ua5.out.trans (HU_ua5_ua6.out.mono HU_wdc_ua5.out.size))
    refine hK.out _ _ HU_ua5_ua6.out (fun _ => ?_)
    clear hK
    try simp only [List.getElem_toArray, List.getElem_cons_succ, List.getElem_cons_zero, Act.put, List.setIfInBounds_toArray, List.set_cons_zero, List.set_cons_succ]
    have HSua6 : Hid (Below ua6.heap.size ua6 ua6) := Lib.hid (Below.refl _ _)
    refine Sha.wpAnyH_more (S' := fun W => Below ua6.heap.size ua6 W) (fun W h => HU_ua5_ua6.out.trans (h.mono HU_ua5_ua6.out.size)) _ _ _ _ ?_
    refine wpAnyH_take (i := 37) (v := ?ve52) rfl (by kernel_rfl) (by kernel_rfl) (by kernel_rfl) (fun _ _ _ h => h) (Or.inl ⟨by rfl, ?ye52⟩) HSua6.out ?re52
    case ye52 => (intro w' hSw; clear hSw; go_simp; try with_reducible rfl)
    simp only [List.getElem_toArray, List.getElem_cons_succ, List.getElem_cons_zero, Act.put, List.setIfInBounds_toArray, List.set_cons_zero, List.set_cons_succ]
    refine wpAnyH_take (i := 38) (v := ?ve53) rfl (by kernel_rfl) (by kernel_rfl) (by kernel_rfl) (fun _ _ _ h => h) (Or.inl ⟨by rfl, ?ye53⟩) HSua6.out ?re53
    case ye53 => (intro w' hSw; clear hSw; go_simp; try with_reducible rfl)
    simp only [List.getElem_toArray, List.getElem_cons_succ, List.getElem_cons_zero, Act.put, List.setIfInBounds_toArray, List.set_cons_zero, List.set_cons_succ]
    refine wpAnyH_done (by kernel_rfl) ?_ _
    change Exit.then _ _ Exit.normal _ _
    clear yj0 yj1 yj2 yj3 yj4 y1 y2 y3 y4 hmn
    have HDu : Hid (Below w6.heap.size w6 ua6) := Lib.hid (HDd.out.trans (HU_wdc_ua6.out.mono HDd.out.size))
    have HEu : Hid (Below w10.heap.size w10 ua6) := Lib.hid (HEd.out.trans (HU_wdc_ua6.out.mono HEd.out.size))
    have HCu : Hid (Below W0.heap.size W0 ua6) := Lib.hid (HCd.out.trans (HU_wdc_ua6.out.mono HCd.out.size))
    clear HU_wdc_ua1 HU_wdc_ua2 HU_wdc_ua3 HU_wdc_ua4 HU_wdc_ua5 HU_wdc_ua6 HU_ua1_ua2 HU_ua1_ua3 HU_ua1_ua4 HU_ua1_ua5 HU_ua1_ua6 HU_ua2_ua3 HU_ua2_ua4 HU_ua2_ua5 HU_ua2_ua6 HU_ua3_ua4 HU_ua3_ua5 HU_ua3_ua6 HU_ua4_ua5 HU_ua4_ua6 HU_ua5_ua6 HXQ HQL HIN HNA C34 HSwdc HSua1 HSua2 HSua3 HSua4 HSua5 HSua6 HDd HEd HCd HD14 HE14
    go_wp2_with fail
    go_loopw [15] (fun v W => ∃ i : Nat, i ≤ nl ∧ v = .int .i64 i ∧ Hid (Below ua6.heap.size ua6 W)) (fun v _ => nl - (intOf v).toNat)
    case atStart => exact ⟨0, by omega, rfl, Lib.hid (Below.refl _ _)⟩
    case round =>
      obtain ⟨i, him, rfl, HW⟩ := hrel
      by_cases hi : i < nl
      case neg =>
        have yi : ¬ (i : Int) < (nl : Int) := by omega
        have HDr : Hid (Below w6.heap.size w6 wr) := Lib.hid (HDu.out.trans (HW.out.mono HDu.out.size))
        have HCr : Hid (Below W0.heap.size W0 wr) := Lib.hid (HCu.out.trans (HW.out.mono HCu.out.size))
        by_cases hz : nl = 0
        case pos =>
          have yz : ((nl : Int) == 0) = true := by simp [hz]
          clear hz
          go_wp2
          go_ret
          exact ⟨rfl, B0.out.trans (HCr.out.mono B0.out.size)⟩
        have yz : ((nl : Int) == 0) = false := by simp; omega
        obtain ⟨k, hk⟩ : ∃ k, ib % nl = k := ⟨_, rfl⟩
        have hkn : k < nl := by rw [← hk]; exact Nat.mod_lt _ (by omega)
        have y5 : (ib : Int) % (nl : Int) = (k : Int) := by rw [← hk]; rfl
        have y6 : Int.tmod (ib : Int) (nl : Int) = (k : Int) := by rw [Int.tmod_eq_emod_of_nonneg (by omega)]; exact y5
        have hmem : gi LV k ∈ leavesF ns d := by rw [HLs.out.1]; exact gi_mem (by rw [HLV6.out.len]; omega)
        have htj := mem_leavesF.1 hmem
        obtain ⟨j, hj⟩ := Int.eq_ofNat_of_zero_le htj.1
        rw [hj] at htj
        obtain ⟨aa, rfl⟩ := HLV6.out.some (by omega)
        have c0 := (HLV6.out.below HDr.out).cell k hkn
        rw [hj] at c0
        have HTJ := Lib.hid htj
        have k1 : ¬ (k : Int) < 0 := by omega
        have k2 : (k : Int) < (nl : Int) := by omega
        have k3 : ¬ (k : Int) ≥ (nl : Int) := by omega
        have hHN := HN0
        obtain ⟨NN, hNN⟩ : ∃ x, 2 ^ (d + 1) - 1 = x := ⟨_, rfl⟩
        obtain ⟨rn, hrn⟩ : ∃ x, renF ns d j (leafN nb) = x := ⟨_, rfl⟩
        have HNN := Lib.hid (And.intro hNN hrn)
        have HWD : Hid (Below W0.heap.size W0 wr.drew) := Lib.hid HCr.out.drew
        have HWZ : Hid (w.heap.size ≤ wr.drew.heap.size) := Lib.hid (Nat.le_trans B0.out.size HWD.out.size)
        have HD6r : Hid (Below w6.heap.size w6 wr.drew) := Lib.hid HDr.out.drew
        have CR : Hid (∀ (B : Nat) (q : NdQ) (W : World), Below wr.drew.heap.size wr.drew W → w.heap.size ≤ B → NdIs Any W q (leafN nb) → NdFar (fun x => x ≠ B) q → Calls Tryz.prog 23 #[.agg #[.int .i64 d, .slice A n c], .int .i64 j, .agg q.cs] W fun e w' => ∃ g2 bs2, e = .returned (.tuple #[.agg #[.int .i64 d, .slice (some ⟨g2, 0, none⟩) NN NN], .int .i64 0]) ∧ W.heap.size ≤ g2 ∧ OwnN (fun x => x ≠ g2 ∧ (B < W.heap.size → x ≠ B) ∧ x < w'.heap.size) w' bs2 g2 NN NN rn ∧ Below W.heap.size W w') := Lib.hid fun B q W hb hB hq hf => by
          have hW := HWD.out.trans (hb.mono HWD.out.size)
          refine law_renew d A n c ns nb j NN rn HR.out HTJ.out hNN hrn B q W (HN.out.below hW) (fun ad e j q hj hat => ?_) hq hf (HT.out.below hW).sp
          exact (HN0.out.farB (B0.out.trans (hW.mono B0.out.size)) ad e j q hj hat).mono (fun x hx => by omega)
        clear hk hmem hj htj hz hNN hrn
        go_wp2_with fail
        refine wp_cut (fun a (x : NdQ × Nat × Nat) => { tmps := (((((((((a.tmps.setIfInBounds 204 (.agg #[.int .i64 d, .slice A n c])).setIfInBounds 205 (.int .i64 j)).setIfInBounds 206 (.int .u8 nb)).setIfInBounds 207 (.agg x.1.cs)).setIfInBounds 208 (.tuple #[.agg #[.int .i64 d, .slice (some ⟨x.2.1, 0, none⟩) NN NN], .int .i64 0])).setIfInBounds 203 (.tuple #[.agg #[.int .i64 d, .slice (some ⟨x.2.1, 0, none⟩) NN NN], .int .i64 0])).setIfInBounds 209 (.agg #[.int .i64 d, .slice (some ⟨x.2.1, 0, none⟩) NN NN])).setIfInBounds 210 (.int .i64 0)).setIfInBounds 17 (.pointer (some ⟨x.2.2, 0, none⟩))).setIfInBounds 18 (.int .i64 0), defers := a.defers })
          (fun x W => Hid (TrB d (some ⟨x.2.1, 0, none⟩) NN NN W x.2.2 ∧ Nodes Any Any W (some ⟨x.2.1, 0, none⟩) NN NN rn ∧ Below wr.drew.heap.size wr.drew W)) ?_ ?_
        case refine_1 =>
          clear c0 k1 k2 k3 y5 y6 yz
          try simp only [Act.put]
          refine Wr.region_calm ?_
          refine wp_region_any (by kernel_rfl) ?_
          change wpAny _ _ _ _ _ _ _ (World.drew wr)
          have HSwdg : Hid (Below (World.drew wr).heap.size (World.drew wr) (World.drew wr)) := Lib.hid (Below.refl _ _)
          generalize World.drew wr = wdg at *
          refine wpAny_of_held (S := fun W => Below wdg.heap.size wdg W) _ _ _ _ ?_
          refine wpAnyH_take (i := 0) (v := ?ve113) rfl (by kernel_rfl) (by kernel_rfl) (by kernel_rfl) (fun _ _ _ h => h) (Or.inl ⟨by rfl, ?ye113⟩) HSwdg.out ?re113
          case ye113 => (intro w' hSw; obtain ⟨s0, s1⟩ := (HG1.out.below (HWD.out.trans (hSw.mono HWD.out.size)) HL1.out).cs; clear hSw; go_simp; try with_reducible rfl)
          simp only [List.getElem_toArray, List.getElem_cons_succ, List.getElem_cons_zero, Act.put, List.setIfInBounds_toArray, List.set_cons_zero, List.set_cons_succ]
          refine wpAnyH_take (i := 1) (v := ?ve114) rfl (by kernel_rfl) (by kernel_rfl) (by kernel_rfl) (fun _ _ _ h => h) (Or.inl ⟨by rfl, ?ye114⟩) HSwdg.out ?re114
          case ye114 => (intro w' hSw; clear hSw; go_simp; try with_reducible rfl)
          simp only [List.getElem_toArray, List.getElem_cons_succ, List.getElem_cons_zero, Act.put, List.setIfInBounds_toArray, List.set_cons_zero, List.set_cons_succ]
          refine wpAnyH_take (i := 2) (v := ?ve115) rfl (by kernel_rfl) (by kernel_rfl) (by kernel_rfl) (fun _ _ _ h => h) (Or.inl ⟨by rfl, ?ye115⟩) HSwdg.out ?re115
          case ye115 => (intro w' hSw; clear hSw; go_simp; try with_reducible rfl)
          simp only [List.getElem_toArray, List.getElem_cons_succ, List.getElem_cons_zero, Act.put, List.setIfInBounds_toArray, List.set_cons_zero, List.set_cons_succ]
          refine wpAnyH_ready (rs := [3, 8]) (by kernel_rfl) (by simp) ?_
          refine (AllReadyH.cons rfl (fun K' hK => ?_) (AllReadyH.cons rfl (fun K' hK => ?_) AllReadyH.nil))
          · skip
            simp only [List.getElem_toArray, List.getElem_cons_succ, List.getElem_cons_zero]
            go_simp
            refine (leaf_any nb hnb wdg).mono ?_
            rintro e' wl12 ⟨qwl12, rfl, hq, hqf, hb⟩
            have HQwl12 := Lib.hid hq; have HFwl12 := Lib.hid (hqf.and hq.far); have HSwl12 := Lib.hid (HSwdg.out.trans (hb.mono HSwdg.out.size)); have HVwl12 := Lib.hid hb.size
            clear hq hqf hb
            refine hK.out _ _ HSwl12.out (fun _ => ?_)
            clear hK
            try simp only [List.getElem_toArray, List.getElem_cons_succ, List.getElem_cons_zero, Act.put, List.setIfInBounds_toArray, List.set_cons_zero, List.set_cons_succ]
            refine wpAnyH_ready (rs := [4, 8]) (by kernel_rfl) (by simp) ?_
            refine (AllReadyH.cons rfl (fun K' hK => ?_) (AllReadyH.cons rfl (fun K' hK => ?_) AllReadyH.nil))
            · skip
              simp only [List.getElem_toArray, List.getElem_cons_succ, List.getElem_cons_zero]
              go_simp
              have hfq : NdFar (fun x => x ≠ wl12.heap.size) qwl12 := (HFwl12.out).mono (fun x hx => by (have h1 := hx.1; have h2 := hx.2; have := HVwl12.out; omega))
              refine (CR.out wl12.heap.size qwl12 wl12 HSwl12.out (by have := HWZ.out; have := HSwl12.out.size;  omega) HQwl12.out hfq).mono ?_
              rintro e' ad13 ⟨g, bs, rfl, hg2, ho, hb⟩
              have HOad13 := Lib.hid ho; have HGad13 := Lib.hid hg2; have HSad13 := Lib.hid (HSwl12.out.trans (hb.mono HSwl12.out.size)); have HVad13 := Lib.hid hb.size
              clear hfq hg2 ho hb
              refine hK.out _ _ HSad13.out (fun _ => ?_)
              clear hK
              try simp only [List.getElem_toArray, List.getElem_cons_succ, List.getElem_cons_zero, Act.put, List.setIfInBounds_toArray, List.set_cons_zero, List.set_cons_succ]
              refine wpAnyH_take (i := 5) (v := ?ve116) rfl (by kernel_rfl) (by kernel_rfl) (by kernel_rfl) (fun _ _ _ h => h) (Or.inl ⟨by rfl, ?ye116⟩) HSad13.out ?re116
              case ye116 => (intro w' hSw; clear hSw; go_simp; try with_reducible rfl)
              simp only [List.getElem_toArray, List.getElem_cons_succ, List.getElem_cons_zero, Act.put, List.setIfInBounds_toArray, List.set_cons_zero, List.set_cons_succ]
              refine wpAnyH_take (i := 6) (v := ?ve117) rfl (by kernel_rfl) (by kernel_rfl) (by kernel_rfl) (fun _ _ _ h => h) (Or.inl ⟨by rfl, ?ye117⟩) HSad13.out ?re117
              case ye117 => (intro w' hSw; clear hSw; go_simp; try with_reducible rfl)
              simp only [List.getElem_toArray, List.getElem_cons_succ, List.getElem_cons_zero, Act.put, List.setIfInBounds_toArray, List.set_cons_zero, List.set_cons_succ]
              refine wpAnyH_take (i := 7) (v := ?ve118) rfl (by kernel_rfl) (by kernel_rfl) (by kernel_rfl) (fun _ _ _ h => h) (Or.inl ⟨by rfl, ?ye118⟩) HSad13.out ?re118
              case ye118 => (intro w' hSw; clear hSw; go_simp; try with_reducible rfl)
              simp only [List.getElem_toArray, List.getElem_cons_succ, List.getElem_cons_zero, Act.put, List.setIfInBounds_toArray, List.set_cons_zero, List.set_cons_succ]
              refine wpAnyH_ready (rs := [8]) (by kernel_rfl) (by simp) ?_
              refine (AllReadyH.cons rfl (fun K' hK => ?_) AllReadyH.nil)
              simp only [List.getElem_toArray, List.getElem_cons_succ, List.getElem_cons_zero]
              go_simp
              have ba := below_one ad13 (.cells zt 24)
              have za := heap_alloc_last ad13 (.cells zt 24)
              obtain ⟨wa14, hwa⟩ : ∃ wa, ad13.alloc (.cells zt 24) = wa := ⟨_, rfl⟩
              rw [hwa] at ba za
              try rw [hwa]
              have HSwa14 := Lib.hid (HSad13.out.trans (ba.mono HSad13.out.size)); have HZwa14 := Lib.hid za
              have HVwa14 := Lib.hid (show ad13.heap.size < wa14.heap.size from (Array.getElem?_eq_some_iff.1 za).1)
              have HOwa14 := Lib.hid (HOad13.out.below ba)
              clear hwa ba za
              refine hK.out _ _ HSwa14.out (fun _ => ?_)
              clear hK
              try simp only [List.getElem_toArray, List.getElem_cons_succ, List.getElem_cons_zero, Act.put, List.setIfInBounds_toArray, List.set_cons_zero, List.set_cons_succ]
              refine wpAnyH_ready (rs := [9]) (by kernel_rfl) (by simp) ?_
              refine (AllReadyH.cons rfl (fun K' hK => ?_) AllReadyH.nil)
              simp only [List.getElem_toArray, List.getElem_cons_succ, List.getElem_cons_zero]
              rw [if_pos (by rfl)]
              refine wp_store_row 24 (.tmp 17) (.tmp 209) rfl (ad13.heap.size) #[.int .i64 (d : Nat), .slice (some ⟨g, 0, none⟩) NN NN] rfl rfl 24 zt HZwa14.out (tr_sized _ _ _ _) rfl (tr_all _ _ _ _) ?_
              have HTRws15 := Lib.hid (setRow_heap wa14 (ad13.heap.size) _ #[.int .i64 (d : Nat), .slice (some ⟨g, 0, none⟩) NN NN] 24 _ HZwa14.out)
              have hgb : g ≠ ad13.heap.size := by (have h1 := HGad13.out; have h2 := HOad13.out.lt.2; have := HVwl12.out; have := HVad13.out; have := HVwa14.out; omega)
              have HNDws15 := Lib.hid ((HOwa14.out.kept (w' := wa14.setRow (ad13.heap.size) #[.int .i64 (d : Nat), .slice (some ⟨g, 0, none⟩) NN NN]) (by simp [World.setRow]) (setRow_other wa14 _ _ _ hgb) (fun b hb _ => setRow_other wa14 _ b _ (by have h1 := hb.2.2; omega))).nodes.any)
              have HSws15' := Lib.hid (below_setRow HSwa14.out (by have := HSad13.out.size; omega) #[.int .i64 (d : Nat), .slice (some ⟨g, 0, none⟩) NN NN])
              obtain ⟨ws15, hk⟩ : ∃ W, wa14.setRow (ad13.heap.size) #[.int .i64 (d : Nat), .slice (some ⟨g, 0, none⟩) NN NN] = W := ⟨_, rfl⟩
              rw [hk] at HTRws15 HNDws15 HSws15' ⊢
              have HSws15 := HSws15'
              clear hk hgb
              refine hK.out _ _ HSws15.out (fun _ => ?_)
              clear hK
              try simp only [List.getElem_toArray, List.getElem_cons_succ, List.getElem_cons_zero, Act.put, List.setIfInBounds_toArray, List.set_cons_zero, List.set_cons_succ]
              refine wpAnyH_take (i := 10) (v := ?ve119) rfl (by kernel_rfl) (by kernel_rfl) (by kernel_rfl) (fun _ _ _ h => h) (Or.inl ⟨by rfl, ?ye119⟩) HSws15.out ?re119
              case ye119 => (intro w' hSw; clear hSw; go_simp; try with_reducible rfl)
              simp only [List.getElem_toArray, List.getElem_cons_succ, List.getElem_cons_zero, Act.put, List.setIfInBounds_toArray, List.set_cons_zero, List.set_cons_succ]
              refine wpAnyH_done (by kernel_rfl) ?_ _
              exact ⟨(qwl12, g, ad13.heap.size), rfl, Lib.hid ⟨HTRws15.out, HNDws15.out, HSws15.out⟩⟩
            · skip
              simp only [List.getElem_toArray, List.getElem_cons_succ, List.getElem_cons_zero]
              go_simp
              have ba := below_one wl12 (.cells zt 24)
              have za := heap_alloc_last wl12 (.cells zt 24)
              obtain ⟨wa16, hwa⟩ : ∃ wa, wl12.alloc (.cells zt 24) = wa := ⟨_, rfl⟩
              rw [hwa] at ba za
              try rw [hwa]
              have HSwa16 := Lib.hid (HSwl12.out.trans (ba.mono HSwl12.out.size)); have HZwa16 := Lib.hid za
              have HVwa16 := Lib.hid (show wl12.heap.size < wa16.heap.size from (Array.getElem?_eq_some_iff.1 za).1)
              have HQwa16 := Lib.hid (HQwl12.out.below ba)
              clear hwa ba za
              refine hK.out _ _ HSwa16.out (fun _ => ?_)
              clear hK
              try simp only [List.getElem_toArray, List.getElem_cons_succ, List.getElem_cons_zero, Act.put, List.setIfInBounds_toArray, List.set_cons_zero, List.set_cons_succ]
              refine wpAnyH_ready (rs := [4]) (by kernel_rfl) (by simp) ?_
              refine (AllReadyH.cons rfl (fun K' hK => ?_) AllReadyH.nil)
              simp only [List.getElem_toArray, List.getElem_cons_succ, List.getElem_cons_zero]
              go_simp
              have hfq : NdFar (fun x => x ≠ wl12.heap.size) qwl12 := (HFwl12.out).mono (fun x hx => by (have h1 := hx.1; have h2 := hx.2; have := HVwl12.out; have := HVwa16.out; omega))
              refine (CR.out wl12.heap.size qwl12 wa16 HSwa16.out (by have := HWZ.out; have := HSwa16.out.size; have := HSwl12.out.size; omega) HQwa16.out hfq).mono ?_
              rintro e' ad17 ⟨g, bs, rfl, hg2, ho, hb⟩
              have HOad17 := Lib.hid ho; have HGad17 := Lib.hid hg2; have HSad17 := Lib.hid (HSwa16.out.trans (hb.mono HSwa16.out.size)); have HVad17 := Lib.hid hb.size
              have HZad17 := Lib.hid ((hb.block _ (Array.getElem?_eq_some_iff.1 HZwa16.out).1).trans HZwa16.out)
              clear hfq hg2 ho hb
              refine hK.out _ _ HSad17.out (fun _ => ?_)
              clear hK
              try simp only [List.getElem_toArray, List.getElem_cons_succ, List.getElem_cons_zero, Act.put, List.setIfInBounds_toArray, List.set_cons_zero, List.set_cons_succ]
              refine wpAnyH_take (i := 5) (v := ?ve120) rfl (by kernel_rfl) (by kernel_rfl) (by kernel_rfl) (fun _ _ _ h => h) (Or.inl ⟨by rfl, ?ye120⟩) HSad17.out ?re120
              case ye120 => (intro w' hSw; clear hSw; go_simp; try with_reducible rfl)
              simp only [List.getElem_toArray, List.getElem_cons_succ, List.getElem_cons_zero, Act.put, List.setIfInBounds_toArray, List.set_cons_zero, List.set_cons_succ]
              refine wpAnyH_take (i := 6) (v := ?ve121) rfl (by kernel_rfl) (by kernel_rfl) (by kernel_rfl) (fun _ _ _ h => h) (Or.inl ⟨by rfl, ?ye121⟩) HSad17.out ?re121
              case ye121 => (intro w' hSw; clear hSw; go_simp; try with_reducible rfl)
              simp only [List.getElem_toArray, List.getElem_cons_succ, List.getElem_cons_zero, Act.put, List.setIfInBounds_toArray, List.set_cons_zero, List.set_cons_succ]
              refine wpAnyH_take (i := 7) (v := ?ve122) rfl (by kernel_rfl) (by kernel_rfl) (by kernel_rfl) (fun _ _ _ h => h) (Or.inl ⟨by rfl, ?ye122⟩) HSad17.out ?re122
              case ye122 => (intro w' hSw; clear hSw; go_simp; try with_reducible rfl)
              simp only [List.getElem_toArray, List.getElem_cons_succ, List.getElem_cons_zero, Act.put, List.setIfInBounds_toArray, List.set_cons_zero, List.set_cons_succ]
              refine wpAnyH_ready (rs := [9]) (by kernel_rfl) (by simp) ?_
              refine (AllReadyH.cons rfl (fun K' hK => ?_) AllReadyH.nil)
              simp only [List.getElem_toArray, List.getElem_cons_succ, List.getElem_cons_zero]
              rw [if_pos (by rfl)]
              refine wp_store_row 24 (.tmp 17) (.tmp 209) rfl (wl12.heap.size) #[.int .i64 (d : Nat), .slice (some ⟨g, 0, none⟩) NN NN] rfl rfl 24 zt HZad17.out (tr_sized _ _ _ _) rfl (tr_all _ _ _ _) ?_
              have HTRws18 := Lib.hid (setRow_heap ad17 (wl12.heap.size) _ #[.int .i64 (d : Nat), .slice (some ⟨g, 0, none⟩) NN NN] 24 _ HZad17.out)
              have hgb : g ≠ wl12.heap.size := by (have h1 := HGad17.out;  have := HVwl12.out; have := HVwa16.out; have := HVad17.out; omega)
              have HNDws18 := Lib.hid ((HOad17.out.kept (w' := ad17.setRow (wl12.heap.size) #[.int .i64 (d : Nat), .slice (some ⟨g, 0, none⟩) NN NN]) (by simp [World.setRow]) (setRow_other ad17 _ _ _ hgb) (fun b hb _ => setRow_other ad17 _ b _ (by exact hb.2.1 (by have := HVwl12.out; have := HVwa16.out; have := HVad17.out; omega)))).nodes.any)
              have HSws18' := Lib.hid (below_setRow HSad17.out (by have := HSwl12.out.size; omega) #[.int .i64 (d : Nat), .slice (some ⟨g, 0, none⟩) NN NN])
              obtain ⟨ws18, hk⟩ : ∃ W, ad17.setRow (wl12.heap.size) #[.int .i64 (d : Nat), .slice (some ⟨g, 0, none⟩) NN NN] = W := ⟨_, rfl⟩
              rw [hk] at HTRws18 HNDws18 HSws18' ⊢
              have HSws18 := HSws18'
              clear hk hgb
              refine hK.out _ _ HSws18.out (fun _ => ?_)
              clear hK
              try simp only [List.getElem_toArray, List.getElem_cons_succ, List.getElem_cons_zero, Act.put, List.setIfInBounds_toArray, List.set_cons_zero, List.set_cons_succ]
              refine wpAnyH_take (i := 10) (v := ?ve123) rfl (by kernel_rfl) (by kernel_rfl) (by kernel_rfl) (fun _ _ _ h => h) (Or.inl ⟨by rfl, ?ye123⟩) HSws18.out ?re123
              case ye123 => (intro w' hSw; clear hSw; go_simp; try with_reducible rfl)
              simp only [List.getElem_toArray, List.getElem_cons_succ, List.getElem_cons_zero, Act.put, List.setIfInBounds_toArray, List.set_cons_zero, List.set_cons_succ]
              refine wpAnyH_done (by kernel_rfl) ?_ _
              exact ⟨(qwl12, g, wl12.heap.size), rfl, Lib.hid ⟨HTRws18.out, HNDws18.out, HSws18.out⟩⟩
          · skip
            simp only [List.getElem_toArray, List.getElem_cons_succ, List.getElem_cons_zero]
            go_simp
            have ba := below_one wdg (.cells zt 24)
            have za := heap_alloc_last wdg (.cells zt 24)
            obtain ⟨wa19, hwa⟩ : ∃ wa, wdg.alloc (.cells zt 24) = wa := ⟨_, rfl⟩
            rw [hwa] at ba za
            try rw [hwa]
            have HSwa19 := Lib.hid (HSwdg.out.trans (ba.mono HSwdg.out.size)); have HZwa19 := Lib.hid za
            have HVwa19 := Lib.hid (show wdg.heap.size < wa19.heap.size from (Array.getElem?_eq_some_iff.1 za).1)
            clear hwa ba za
            refine hK.out _ _ HSwa19.out (fun _ => ?_)
            clear hK
            try simp only [List.getElem_toArray, List.getElem_cons_succ, List.getElem_cons_zero, Act.put, List.setIfInBounds_toArray, List.set_cons_zero, List.set_cons_succ]
            refine wpAnyH_ready (rs := [3]) (by kernel_rfl) (by simp) ?_
            refine (AllReadyH.cons rfl (fun K' hK => ?_) AllReadyH.nil)
            simp only [List.getElem_toArray, List.getElem_cons_succ, List.getElem_cons_zero]
            go_simp
            refine (leaf_any nb hnb wa19).mono ?_
            rintro e' wl20 ⟨qwl20, rfl, hq, hqf, hb⟩
            have HQwl20 := Lib.hid hq; have HFwl20 := Lib.hid (hqf.and hq.far); have HSwl20 := Lib.hid (HSwa19.out.trans (hb.mono HSwa19.out.size)); have HVwl20 := Lib.hid hb.size
            have HZwl20 := Lib.hid ((hb.block _ (Array.getElem?_eq_some_iff.1 HZwa19.out).1).trans HZwa19.out)
            clear hq hqf hb
            refine hK.out _ _ HSwl20.out (fun _ => ?_)
            clear hK
            try simp only [List.getElem_toArray, List.getElem_cons_succ, List.getElem_cons_zero, Act.put, List.setIfInBounds_toArray, List.set_cons_zero, List.set_cons_succ]
            refine wpAnyH_ready (rs := [4]) (by kernel_rfl) (by simp) ?_
            refine (AllReadyH.cons rfl (fun K' hK => ?_) AllReadyH.nil)
            simp only [List.getElem_toArray, List.getElem_cons_succ, List.getElem_cons_zero]
            go_simp
            have hfq : NdFar (fun x => x ≠ wdg.heap.size) qwl20 := (HFwl20.out).mono (fun x hx => by (have h1 := hx.1; have h2 := hx.2; have := HVwa19.out; have := HVwl20.out; omega))
            refine (CR.out wdg.heap.size qwl20 wl20 HSwl20.out (by have := HWZ.out; have := HSwl20.out.size; have := HSwdg.out.size; omega) HQwl20.out hfq).mono ?_
            rintro e' ad21 ⟨g, bs, rfl, hg2, ho, hb⟩
            have HOad21 := Lib.hid ho; have HGad21 := Lib.hid hg2; have HSad21 := Lib.hid (HSwl20.out.trans (hb.mono HSwl20.out.size)); have HVad21 := Lib.hid hb.size
            have HZad21 := Lib.hid ((hb.block _ (Array.getElem?_eq_some_iff.1 HZwl20.out).1).trans HZwl20.out)
            clear hfq hg2 ho hb
            refine hK.out _ _ HSad21.out (fun _ => ?_)
            clear hK
            try simp only [List.getElem_toArray, List.getElem_cons_succ, List.getElem_cons_zero, Act.put, List.setIfInBounds_toArray, List.set_cons_zero, List.set_cons_succ]
            refine wpAnyH_take (i := 5) (v := ?ve124) rfl (by kernel_rfl) (by kernel_rfl) (by kernel_rfl) (fun _ _ _ h => h) (Or.inl ⟨by rfl, ?ye124⟩) HSad21.out ?re124
            case ye124 => (intro w' hSw; clear hSw; go_simp; try with_reducible rfl)
            simp only [List.getElem_toArray, List.getElem_cons_succ, List.getElem_cons_zero, Act.put, List.setIfInBounds_toArray, List.set_cons_zero, List.set_cons_succ]
            refine wpAnyH_take (i := 6) (v := ?ve125) rfl (by kernel_rfl) (by kernel_rfl) (by kernel_rfl) (fun _ _ _ h => h) (Or.inl ⟨by rfl, ?ye125⟩) HSad21.out ?re125
            case ye125 => (intro w' hSw; clear hSw; go_simp; try with_reducible rfl)
            simp only [List.getElem_toArray, List.getElem_cons_succ, List.getElem_cons_zero, Act.put, List.setIfInBounds_toArray, List.set_cons_zero, List.set_cons_succ]
            refine wpAnyH_take (i := 7) (v := ?ve126) rfl (by kernel_rfl) (by kernel_rfl) (by kernel_rfl) (fun _ _ _ h => h) (Or.inl ⟨by rfl, ?ye126⟩) HSad21.out ?re126
            case ye126 => (intro w' hSw; clear hSw; go_simp; try with_reducible rfl)
            simp only [List.getElem_toArray, List.getElem_cons_succ, List.getElem_cons_zero, Act.put, List.setIfInBounds_toArray, List.set_cons_zero, List.set_cons_succ]
            refine wpAnyH_ready (rs := [9]) (by kernel_rfl) (by simp) ?_
            refine (AllReadyH.cons rfl (fun K' hK => ?_) AllReadyH.nil)
            simp only [List.getElem_toArray, List.getElem_cons_succ, List.getElem_cons_zero]
            rw [if_pos (by rfl)]
            refine wp_store_row 24 (.tmp 17) (.tmp 209) rfl (wdg.heap.size) #[.int .i64 (d : Nat), .slice (some ⟨g, 0, none⟩) NN NN] rfl rfl 24 zt HZad21.out (tr_sized _ _ _ _) rfl (tr_all _ _ _ _) ?_
            have HTRws22 := Lib.hid (setRow_heap ad21 (wdg.heap.size) _ #[.int .i64 (d : Nat), .slice (some ⟨g, 0, none⟩) NN NN] 24 _ HZad21.out)
            have hgb : g ≠ wdg.heap.size := by (have h1 := HGad21.out;  have := HVwa19.out; have := HVwl20.out; have := HVad21.out; omega)
            have HNDws22 := Lib.hid ((HOad21.out.kept (w' := ad21.setRow (wdg.heap.size) #[.int .i64 (d : Nat), .slice (some ⟨g, 0, none⟩) NN NN]) (by simp [World.setRow]) (setRow_other ad21 _ _ _ hgb) (fun b hb _ => setRow_other ad21 _ b _ (by exact hb.2.1 (by have := HVwa19.out; have := HVwl20.out; have := HVad21.out; omega)))).nodes.any)
            have HSws22' := Lib.hid (below_setRow HSad21.out (by have := HSwdg.out.size; omega) #[.int .i64 (d : Nat), .slice (some ⟨g, 0, none⟩) NN NN])
            obtain ⟨ws22, hk⟩ : ∃ W, ad21.setRow (wdg.heap.size) #[.int .i64 (d : Nat), .slice (some ⟨g, 0, none⟩) NN NN] = W := ⟨_, rfl⟩
            rw [hk] at HTRws22 HNDws22 HSws22' ⊢
            have HSws22 := HSws22'
            clear hk hgb
            refine hK.out _ _ HSws22.out (fun _ => ?_)
            clear hK
            try simp only [List.getElem_toArray, List.getElem_cons_succ, List.getElem_cons_zero, Act.put, List.setIfInBounds_toArray, List.set_cons_zero, List.set_cons_succ]
            refine wpAnyH_take (i := 10) (v := ?ve127) rfl (by kernel_rfl) (by kernel_rfl) (by kernel_rfl) (fun _ _ _ h => h) (Or.inl ⟨by rfl, ?ye127⟩) HSws22.out ?re127
            case ye127 => (intro w' hSw; clear hSw; go_simp; try with_reducible rfl)
            simp only [List.getElem_toArray, List.getElem_cons_succ, List.getElem_cons_zero, Act.put, List.setIfInBounds_toArray, List.set_cons_zero, List.set_cons_succ]
            refine wpAnyH_done (by kernel_rfl) ?_ _
            exact ⟨(qwl20, g, wdg.heap.size), rfl, Lib.hid ⟨HTRws22.out, HNDws22.out, HSws22.out⟩⟩
        case refine_2 =>
          rintro ⟨q7, g7, b7⟩ w7 H7
          simp only [List.setIfInBounds_toArray, List.set_cons_succ, List.set_cons_zero]
          generalize (⟨g7, 0, none⟩ : Addr) = a7 at *
          have HT7 := Lib.hid H7.out.1; have HN7 := Lib.hid H7.out.2.1; have HD7 := Lib.hid H7.out.2.2
          have HL7 := Lib.hid HT7.out.lt
          clear H7
          have HC7 : Hid (Below W0.heap.size W0 w7.drew) := Lib.hid (HWD.out.trans (HD7.out.mono HWD.out.size)).drew
          have HE7 : Hid (Below w6.heap.size w6 w7.drew) := Lib.hid (HD6r.out.trans (HD7.out.mono HD6r.out.size)).drew
          have HW7 : Hid (Below w7.heap.size w7 w7.drew) := Lib.hid (Below.refl _ _).drew
          have hjd := (there_nat.1 HTJ.out).1
          have hR7 : Right rn d := by rw [← HNN.out.2]; exact ren_right HR.out hjd (.inr (leafN_right nb))
          have HR7 := Lib.hid hR7
          have hd6 := HR.out.deep
          have hp2 : 2 ^ d ≤ 64 := Nat.le_trans (Nat.pow_le_pow_right (by decide) hd6) (by decide)
          have hNp : NN = 2 * 2 ^ d - 1 := by rw [← HNN.out.1, Nat.pow_succ]; omega
          have hnew : nd rn (2 * j) = leafN nb := by
            have h := ren_leaf HR.out j (leafN nb) hjd j hjd
            rw [HNN.out.2, if_pos rfl] at h
            exact h
          have hlv : leavesF rn d = LV := by
            have h := renew_leaves HR.out (leafN_right nb) j HTJ.out
            rw [HNN.out.2, HLs.out.1] at h
            exact h
          obtain ⟨m, hm⟩ : ∃ m, 2 * j = m := ⟨_, rfl⟩
          rw [hm] at hnew
          have hmn : m < NN := by omega
          obtain ⟨qn, hat, hin⟩ := (HN7.out.below HW7.out).at m hmn
          rw [hnew] at hin
          have HNA : Hid (∀ W, Below w7.drew.heap.size w7.drew W → NdAt W (a7.add (m * 6)) qn) := Lib.hid fun W hb => hat.of_block (hb.block _ (block_lt_of_cell hat.cells.1))
          have HIN := Lib.hid hin
          have C18 := Lib.hid fun W h1 h2 => leaves_any d (some a7) NN NN rn W h1 h2
          rw [leavesT_yes hR7, hlv] at C18
          have yj0 : ¬ (m : Int) < 0 := by omega
          have yj1 : ¬ (m : Int) ≥ (NN : Int) := by omega
          have yj2 : (m : Int) < (NN : Int) := by omega
          have yj3 : IntKind.i64.wrap (2 * (j : Int)) = (m : Int) := by rw [IntKind.wrap_i64]; omega
          clear c0 k1 k2 k3 y5 y6 yz hjd hR7 hd6 hp2 hNp hnew hlv hm hmn hat hin
          go_wp2_with fail
          try simp only [Act.put]
          refine Wr.region_calm ?_
          refine wp_region_any (by kernel_rfl) ?_
          change wpAny _ _ _ _ _ _ _ (World.drew w7)
          generalize World.drew w7 = wdh at *
          have HSwdh : Hid (Below wdh.heap.size wdh wdh) := Lib.hid (Below.refl _ _)
          refine wpAny_of_held (S := fun W => Below wdh.heap.size wdh W) _ _ _ _ ?_
          refine wpAnyH_take (i := 0) (v := ?ve128) rfl (by kernel_rfl) (by kernel_rfl) (by kernel_rfl) (fun _ _ _ h => h) (Or.inl ⟨by rfl, ?ye128⟩) HSwdh.out ?re128
          case ye128 => (intro w' hSw; clear hSw; go_simp; try with_reducible rfl)
          simp only [List.getElem_toArray, List.getElem_cons_succ, List.getElem_cons_zero, Act.put, List.setIfInBounds_toArray, List.set_cons_zero, List.set_cons_succ]
          refine wpAnyH_take (i := 1) (v := ?ve129) rfl (by kernel_rfl) (by kernel_rfl) (by kernel_rfl) (fun _ _ _ h => h) (Or.inl ⟨by rfl, ?ye129⟩) HSwdh.out ?re129
          case ye129 => (intro w' hSw; clear hSw; go_simp; try with_reducible rfl)
          simp only [List.getElem_toArray, List.getElem_cons_succ, List.getElem_cons_zero, Act.put, List.setIfInBounds_toArray, List.set_cons_zero, List.set_cons_succ]
          refine wpAnyH_take (i := 2) (v := ?ve130) rfl (by kernel_rfl) (by kernel_rfl) (by kernel_rfl) (fun _ _ _ h => h) (Or.inl ⟨by rfl, ?ye130⟩) HSwdh.out ?re130
          case ye130 => (intro w' hSw; clear hSw; go_simp; try with_reducible rfl)
          simp only [List.getElem_toArray, List.getElem_cons_succ, List.getElem_cons_zero, Act.put, List.setIfInBounds_toArray, List.set_cons_zero, List.set_cons_succ]
          refine wpAnyH_take (i := 3) (v := ?ve131) rfl (by kernel_rfl) (by kernel_rfl) (by kernel_rfl) (fun _ _ _ h => h) (Or.inl ⟨by rfl, ?ye131⟩) HSwdh.out ?re131
          case ye131 => (intro w' hSw; clear hSw; go_simp; try with_reducible rfl)
          simp only [List.getElem_toArray, List.getElem_cons_succ, List.getElem_cons_zero, Act.put, List.setIfInBounds_toArray, List.set_cons_zero, List.set_cons_succ]
          refine wpAnyH_take (i := 4) (v := ?ve132) rfl (by kernel_rfl) (by kernel_rfl) (by kernel_rfl) (fun _ _ _ h => h) (Or.inl ⟨by rfl, ?ye132⟩) HSwdh.out ?re132
          case ye132 => (intro w' hSw; clear hSw; go_simp; try with_reducible rfl)
          simp only [List.getElem_toArray, List.getElem_cons_succ, List.getElem_cons_zero, Act.put, List.setIfInBounds_toArray, List.set_cons_zero, List.set_cons_succ]
          refine wpAnyH_take (i := 5) (v := ?ve133) rfl (by kernel_rfl) (by kernel_rfl) (by kernel_rfl) (fun _ _ _ h => h) (Or.inl ⟨by rfl, ?ye133⟩) HSwdh.out ?re133
          case ye133 => (intro w' hSw; clear hSw; go_simp; try with_reducible rfl)
          simp only [List.getElem_toArray, List.getElem_cons_succ, List.getElem_cons_zero, Act.put, List.setIfInBounds_toArray, List.set_cons_zero, List.set_cons_succ]
          refine wpAnyH_take (i := 6) (v := ?ve134) rfl (by kernel_rfl) (by kernel_rfl) (by kernel_rfl) (fun _ _ _ h => h) (Or.inl ⟨by rfl, ?ye134⟩) HSwdh.out ?re134
          case ye134 => (intro w' hSw; have hq_wdh : Below wdh.heap.size wdh w' := hSw; have hq := hq_wdh; obtain ⟨s0, s1⟩ := (HG1.out.below (HC7.out.trans (hq.mono HC7.out.size)) HL1.out).cs; obtain ⟨t0, t1⟩ := (HT7.out.below (HW7.out.trans (hq.mono HW7.out.size)) HL7.out).cs; obtain ⟨p0, p1, p2, p3, p4, p5⟩ := (HNA.out _ hq).cells; clear hSw; try clear hq hq_wdh; go_simp; try with_reducible rfl)
          simp only [List.getElem_toArray, List.getElem_cons_succ, List.getElem_cons_zero, Act.put, List.setIfInBounds_toArray, List.set_cons_zero, List.set_cons_succ]
          refine wpAnyH_ready (rs := [7]) (by kernel_rfl) (by simp) ?_
          refine AllReadyH.cons rfl (fun K' hK => ?_) AllReadyH.nil
          simp only [List.getElem_toArray, List.getElem_cons_succ, List.getElem_cons_zero]
          go_simp
          refine (refRight_is d (some a7) NN NN rn true _ (HN7.out.below HW7.out) (by simp; exact ⟨d, rfl, HR7.out⟩)).mono ?_
          rintro e' ub1 ⟨rfl, hb⟩
          have HU_wdh_ub1 := Lib.hid hb
          clear hb
          refine hK.out _ _ HU_wdh_ub1.out (fun _ => ?_)
          clear hK
          try simp only [List.getElem_toArray, List.getElem_cons_succ, List.getElem_cons_zero, Act.put, List.setIfInBounds_toArray, List.set_cons_zero, List.set_cons_succ]
          have HSub1 : Hid (Below ub1.heap.size ub1 ub1) := Lib.hid (Below.refl _ _)
          refine Sha.wpAnyH_more (S' := fun W => Below ub1.heap.size ub1 W) (fun W h => HU_wdh_ub1.out.trans (h.mono HU_wdh_ub1.out.size)) _ _ _ _ ?_
          refine wpAnyH_take (i := 8) (v := ?ve135) rfl (by kernel_rfl) (by kernel_rfl) (by kernel_rfl) (fun _ _ _ h => h) (Or.inl ⟨by rfl, ?ye135⟩) HSub1.out ?re135
          case ye135 => (intro w' hSw; clear hSw; go_simp; try with_reducible rfl)
          simp only [List.getElem_toArray, List.getElem_cons_succ, List.getElem_cons_zero, Act.put, List.setIfInBounds_toArray, List.set_cons_zero, List.set_cons_succ]
          refine wpAnyH_take (i := 9) (v := ?ve136) rfl (by kernel_rfl) (by kernel_rfl) (by kernel_rfl) (fun _ _ _ h => h) (Or.inl ⟨by rfl, ?ye136⟩) HSub1.out ?re136
          case ye136 => (intro w' hSw; clear hSw; go_simp; try with_reducible rfl)
          simp only [List.getElem_toArray, List.getElem_cons_succ, List.getElem_cons_zero, Act.put, List.setIfInBounds_toArray, List.set_cons_zero, List.set_cons_succ]
          refine wpAnyH_take (i := 10) (v := ?ve137) rfl (by kernel_rfl) (by kernel_rfl) (by kernel_rfl) (fun _ _ _ h => h) (Or.inl ⟨by rfl, ?ye137⟩) HSub1.out ?re137
          case ye137 => (intro w' hSw; clear hSw; go_simp; try with_reducible rfl)
          simp only [List.getElem_toArray, List.getElem_cons_succ, List.getElem_cons_zero, Act.put, List.setIfInBounds_toArray, List.set_cons_zero, List.set_cons_succ]
          refine wpAnyH_take (i := 11) (v := ?ve138) rfl (by kernel_rfl) (by kernel_rfl) (by kernel_rfl) (fun _ _ _ h => h) (Or.inl ⟨by rfl, ?ye138⟩) HSub1.out ?re138
          case ye138 => (intro w' hSw; have hq_ub1 : Below ub1.heap.size ub1 w' := hSw; have hq_wdh : Below wdh.heap.size wdh w' := HU_wdh_ub1.out.trans (hSw.mono HU_wdh_ub1.out.size); have hq := hq_wdh; obtain ⟨s0, s1⟩ := (HG1.out.below (HC7.out.trans (hq.mono HC7.out.size)) HL1.out).cs; obtain ⟨t0, t1⟩ := (HT7.out.below (HW7.out.trans (hq.mono HW7.out.size)) HL7.out).cs; obtain ⟨p0, p1, p2, p3, p4, p5⟩ := (HNA.out _ hq).cells; clear hSw; try clear hq hq_wdh hq_ub1; go_simp; try with_reducible rfl)
          simp only [List.getElem_toArray, List.getElem_cons_succ, List.getElem_cons_zero, Act.put, List.setIfInBounds_toArray, List.set_cons_zero, List.set_cons_succ]
          refine wpAnyH_take (i := 12) (v := ?ve139) rfl (by kernel_rfl) (by kernel_rfl) (by kernel_rfl) (fun _ _ _ h => h) (Or.inl ⟨by rfl, ?ye139⟩) HSub1.out ?re139
          case ye139 => (intro w' hSw; clear hSw; go_simp; try with_reducible rfl)
          simp only [List.getElem_toArray, List.getElem_cons_succ, List.getElem_cons_zero, Act.put, List.setIfInBounds_toArray, List.set_cons_zero, List.set_cons_succ]
          refine wpAnyH_take (i := 13) (v := ?ve140) rfl (by kernel_rfl) (by kernel_rfl) (by kernel_rfl) (fun _ _ _ h => h) (Or.inl ⟨by rfl, ?ye140⟩) HSub1.out ?re140
          case ye140 => (intro w' hSw; have hq_ub1 : Below ub1.heap.size ub1 w' := hSw; have hq_wdh : Below wdh.heap.size wdh w' := HU_wdh_ub1.out.trans (hSw.mono HU_wdh_ub1.out.size); have hq := hq_wdh; obtain ⟨s0, s1⟩ := (HG1.out.below (HC7.out.trans (hq.mono HC7.out.size)) HL1.out).cs; obtain ⟨t0, t1⟩ := (HT7.out.below (HW7.out.trans (hq.mono HW7.out.size)) HL7.out).cs; obtain ⟨p0, p1, p2, p3, p4, p5⟩ := (HNA.out _ hq).cells; clear hSw; try clear hq hq_wdh hq_ub1; go_simp; try with_reducible rfl)
          simp only [List.getElem_toArray, List.getElem_cons_succ, List.getElem_cons_zero, Act.put, List.setIfInBounds_toArray, List.set_cons_zero, List.set_cons_succ]
          refine wpAnyH_take (i := 14) (v := ?ve141) rfl (by kernel_rfl) (by kernel_rfl) (by kernel_rfl) (fun _ _ _ h => h) (Or.inl ⟨by rfl, ?ye141⟩) HSub1.out ?re141
          case ye141 => (intro w' hSw; clear hSw; go_simp; try with_reducible rfl)
          simp only [List.getElem_toArray, List.getElem_cons_succ, List.getElem_cons_zero, Act.put, List.setIfInBounds_toArray, List.set_cons_zero, List.set_cons_succ]
          refine wpAnyH_take (i := 15) (v := ?ve142) rfl (by kernel_rfl) (by kernel_rfl) (by kernel_rfl) (fun _ _ _ h => h) (Or.inl ⟨by rfl, ?ye142⟩) HSub1.out ?re142
          case ye142 => (intro w' hSw; clear hSw; go_simp; try with_reducible rfl)
          simp only [List.getElem_toArray, List.getElem_cons_succ, List.getElem_cons_zero, Act.put, List.setIfInBounds_toArray, List.set_cons_zero, List.set_cons_succ]
          refine wpAnyH_take (i := 16) (v := ?ve143) rfl (by kernel_rfl) (by kernel_rfl) (by kernel_rfl) (fun _ _ _ h => h) (Or.inl ⟨by rfl, ?ye143⟩) HSub1.out ?re143
          case ye143 => (intro w' hSw; clear hSw; go_simp; try with_reducible rfl)
          simp only [List.getElem_toArray, List.getElem_cons_succ, List.getElem_cons_zero, Act.put, List.setIfInBounds_toArray, List.set_cons_zero, List.set_cons_succ]
          refine wpAnyH_take (i := 17) (v := ?ve144) rfl (by kernel_rfl) (by kernel_rfl) (by kernel_rfl) (fun _ _ _ h => h) (Or.inl ⟨by rfl, ?ye144⟩) HSub1.out ?re144
          case ye144 => (intro w' hSw; have hq_ub1 : Below ub1.heap.size ub1 w' := hSw; have hq_wdh : Below wdh.heap.size wdh w' := HU_wdh_ub1.out.trans (hSw.mono HU_wdh_ub1.out.size); have hq := hq_wdh; obtain ⟨s0, s1⟩ := (HG1.out.below (HC7.out.trans (hq.mono HC7.out.size)) HL1.out).cs; obtain ⟨t0, t1⟩ := (HT7.out.below (HW7.out.trans (hq.mono HW7.out.size)) HL7.out).cs; obtain ⟨p0, p1, p2, p3, p4, p5⟩ := (HNA.out _ hq).cells; clear hSw; try clear hq hq_wdh hq_ub1; go_simp; try with_reducible rfl)
          simp only [List.getElem_toArray, List.getElem_cons_succ, List.getElem_cons_zero, Act.put, List.setIfInBounds_toArray, List.set_cons_zero, List.set_cons_succ]
          refine wpAnyH_take (i := 19) (v := ?ve145) rfl (by kernel_rfl) (by kernel_rfl) (by kernel_rfl) (fun _ _ _ h => h) (Or.inl ⟨by rfl, ?ye145⟩) HSub1.out ?re145
          case ye145 => (intro w' hSw; clear hSw; go_simp; try with_reducible rfl)
          simp only [List.getElem_toArray, List.getElem_cons_succ, List.getElem_cons_zero, Act.put, List.setIfInBounds_toArray, List.set_cons_zero, List.set_cons_succ]
          refine wpAnyH_ready (rs := [18]) (by kernel_rfl) (by simp) ?_
          refine AllReadyH.cons rfl (fun K' hK => ?_) AllReadyH.nil
          simp only [List.getElem_toArray, List.getElem_cons_succ, List.getElem_cons_zero]
          go_simp
          refine (C18.out _ (HN7.out.below (HW7.out.trans (HU_wdh_ub1.out.mono HW7.out.size))) (HT.out.below (HC7.out.trans (HU_wdh_ub1.out.mono HC7.out.size))).sp).mono ?_
          rintro e' ub2 ⟨AQ, nq, cq, rfl, hX, hb⟩
          have HU_ub1_ub2 := Lib.hid hb
          have HXQ := Lib.hid hX.any; clear hb hX
          have HU_wdh_ub2 := Lib.hid (HU_wdh_ub1.out.trans (HU_ub1_ub2.out.mono HU_wdh_ub1.out.size))
          refine hK.out _ _ HU_ub1_ub2.out (fun _ => ?_)
          clear hK
          try simp only [List.getElem_toArray, List.getElem_cons_succ, List.getElem_cons_zero, Act.put, List.setIfInBounds_toArray, List.set_cons_zero, List.set_cons_succ]
          have HSub2 : Hid (Below ub2.heap.size ub2 ub2) := Lib.hid (Below.refl _ _)
          refine Sha.wpAnyH_more (S' := fun W => Below ub2.heap.size ub2 W) (fun W h => HU_ub1_ub2.out.trans (h.mono HU_ub1_ub2.out.size)) _ _ _ _ ?_
          refine wpAnyH_ready (rs := [20]) (by kernel_rfl) (by simp) ?_
          refine AllReadyH.cons rfl (fun K' hK => ?_) AllReadyH.nil
          simp only [List.getElem_toArray, List.getElem_cons_succ, List.getElem_cons_zero]
          go_simp
          refine (sameInts_is AQ (some aa) nq nl cq cl LV LV true _ HXQ.out (HLV6.out.below (HE7.out.trans (HU_wdh_ub2.out.mono HE7.out.size))) (by simp)).mono ?_
          rintro e' ub3 ⟨rfl, hb⟩
          have HU_ub2_ub3 := Lib.hid hb
          clear hb
          have HU_ub1_ub3 := Lib.hid (HU_ub1_ub2.out.trans (HU_ub2_ub3.out.mono HU_ub1_ub2.out.size))
          have HU_wdh_ub3 := Lib.hid (HU_wdh_ub2.out.trans (HU_ub2_ub3.out.mono HU_wdh_ub2.out.size))
          refine hK.out _ _ HU_ub2_ub3.out (fun _ => ?_)
          clear hK
          try simp only [List.getElem_toArray, List.getElem_cons_succ, List.getElem_cons_zero, Act.put, List.setIfInBounds_toArray, List.set_cons_zero, List.set_cons_succ]
          have HSub3 : Hid (Below ub3.heap.size ub3 ub3) := Lib.hid (Below.refl _ _)
          refine Sha.wpAnyH_more (S' := fun W => Below ub3.heap.size ub3 W) (fun W h => HU_ub2_ub3.out.trans (h.mono HU_ub2_ub3.out.size)) _ _ _ _ ?_
          refine wpAnyH_take (i := 21) (v := ?ve146) rfl (by kernel_rfl) (by kernel_rfl) (by kernel_rfl) (fun _ _ _ h => h) (Or.inl ⟨by rfl, ?ye146⟩) HSub3.out ?re146
          case ye146 => (intro w' hSw; clear hSw; go_simp; try with_reducible rfl)
          simp only [List.getElem_toArray, List.getElem_cons_succ, List.getElem_cons_zero, Act.put, List.setIfInBounds_toArray, List.set_cons_zero, List.set_cons_succ]
          refine wpAnyH_take (i := 22) (v := ?ve147) rfl (by kernel_rfl) (by kernel_rfl) (by kernel_rfl) (fun _ _ _ h => h) (Or.inl ⟨by rfl, ?ye147⟩) HSub3.out ?re147
          case ye147 => (intro w' hSw; clear hSw; go_simp; try with_reducible rfl)
          simp only [List.getElem_toArray, List.getElem_cons_succ, List.getElem_cons_zero, Act.put, List.setIfInBounds_toArray, List.set_cons_zero, List.set_cons_succ]
          refine wpAnyH_take (i := 23) (v := ?ve148) rfl (by kernel_rfl) (by kernel_rfl) (by kernel_rfl) (fun _ _ _ h => h) (Or.inl ⟨by rfl, ?ye148⟩) HSub3.out ?re148
          case ye148 => (intro w' hSw; clear hSw; go_simp; try with_reducible rfl)
          simp only [List.getElem_toArray, List.getElem_cons_succ, List.getElem_cons_zero, Act.put, List.setIfInBounds_toArray, List.set_cons_zero, List.set_cons_succ]
          refine wpAnyH_take (i := 24) (v := ?ve149) rfl (by kernel_rfl) (by kernel_rfl) (by kernel_rfl) (fun _ _ _ h => h) (Or.inl ⟨by rfl, ?ye149⟩) HSub3.out ?re149
          case ye149 => (intro w' hSw; have hq_ub3 : Below ub3.heap.size ub3 w' := hSw; have hq_ub2 : Below ub2.heap.size ub2 w' := HU_ub2_ub3.out.trans (hSw.mono HU_ub2_ub3.out.size); have hq_ub1 : Below ub1.heap.size ub1 w' := HU_ub1_ub3.out.trans (hSw.mono HU_ub1_ub3.out.size); have hq_wdh : Below wdh.heap.size wdh w' := HU_wdh_ub3.out.trans (hSw.mono HU_wdh_ub3.out.size); have hq := hq_wdh; obtain ⟨s0, s1⟩ := (HG1.out.below (HC7.out.trans (hq.mono HC7.out.size)) HL1.out).cs; obtain ⟨t0, t1⟩ := (HT7.out.below (HW7.out.trans (hq.mono HW7.out.size)) HL7.out).cs; obtain ⟨p0, p1, p2, p3, p4, p5⟩ := (HNA.out _ hq).cells; clear hSw; try clear hq hq_wdh hq_ub1 hq_ub2 hq_ub3; go_simp; try with_reducible rfl)
          simp only [List.getElem_toArray, List.getElem_cons_succ, List.getElem_cons_zero, Act.put, List.setIfInBounds_toArray, List.set_cons_zero, List.set_cons_succ]
          refine wpAnyH_take (i := 25) (v := ?ve150) rfl (by kernel_rfl) (by kernel_rfl) (by kernel_rfl) (fun _ _ _ h => h) (Or.inl ⟨by rfl, ?ye150⟩) HSub3.out ?re150
          case ye150 => (intro w' hSw; clear hSw; go_simp; try with_reducible rfl)
          simp only [List.getElem_toArray, List.getElem_cons_succ, List.getElem_cons_zero, Act.put, List.setIfInBounds_toArray, List.set_cons_zero, List.set_cons_succ]
          refine wpAnyH_take (i := 26) (v := ?ve151) rfl (by kernel_rfl) (by kernel_rfl) (by kernel_rfl) (fun _ _ _ h => h) (Or.inl ⟨by rfl, ?ye151⟩) HSub3.out ?re151
          case ye151 => (intro w' hSw; clear hSw; go_simp; try with_reducible rfl)
          simp only [List.getElem_toArray, List.getElem_cons_succ, List.getElem_cons_zero, Act.put, List.setIfInBounds_toArray, List.set_cons_zero, List.set_cons_succ]
          refine wpAnyH_take (i := 27) (v := ?ve152) rfl (by kernel_rfl) (by kernel_rfl) (by kernel_rfl) (fun _ _ _ h => h) (Or.inl ⟨by rfl, ?ye152⟩) HSub3.out ?re152
          case ye152 => (intro w' hSw; clear hSw; go_simp; try with_reducible rfl)
          simp only [List.getElem_toArray, List.getElem_cons_succ, List.getElem_cons_zero, Act.put, List.setIfInBounds_toArray, List.set_cons_zero, List.set_cons_succ]
          refine wpAnyH_take (i := 28) (v := ?ve153) rfl (by kernel_rfl) (by kernel_rfl) (by kernel_rfl) (fun _ _ _ h => h) (Or.inl ⟨by rfl, ?ye153⟩) HSub3.out ?re153
          case ye153 => (intro w' hSw; have hq_ub3 : Below ub3.heap.size ub3 w' := hSw; have hq_ub2 : Below ub2.heap.size ub2 w' := HU_ub2_ub3.out.trans (hSw.mono HU_ub2_ub3.out.size); have hq_ub1 : Below ub1.heap.size ub1 w' := HU_ub1_ub3.out.trans (hSw.mono HU_ub1_ub3.out.size); have hq_wdh : Below wdh.heap.size wdh w' := HU_wdh_ub3.out.trans (hSw.mono HU_wdh_ub3.out.size); have hq := hq_wdh; obtain ⟨s0, s1⟩ := (HG1.out.below (HC7.out.trans (hq.mono HC7.out.size)) HL1.out).cs; obtain ⟨t0, t1⟩ := (HT7.out.below (HW7.out.trans (hq.mono HW7.out.size)) HL7.out).cs; obtain ⟨p0, p1, p2, p3, p4, p5⟩ := (HNA.out _ hq).cells; clear hSw; try clear hq hq_wdh hq_ub1 hq_ub2 hq_ub3; go_simp; try with_reducible rfl)
          simp only [List.getElem_toArray, List.getElem_cons_succ, List.getElem_cons_zero, Act.put, List.setIfInBounds_toArray, List.set_cons_zero, List.set_cons_succ]
          refine wpAnyH_take (i := 29) (v := ?ve154) rfl (by kernel_rfl) (by kernel_rfl) (by kernel_rfl) (fun _ _ _ h => h) (Or.inl ⟨by rfl, ?ye154⟩) HSub3.out ?re154
          case ye154 => (intro w' hSw; clear hSw; go_simp; try with_reducible rfl)
          simp only [List.getElem_toArray, List.getElem_cons_succ, List.getElem_cons_zero, Act.put, List.setIfInBounds_toArray, List.set_cons_zero, List.set_cons_succ]
          refine wpAnyH_ready (rs := [30]) (by kernel_rfl) (by simp) ?_
          refine AllReadyH.cons rfl (fun K' hK => ?_) AllReadyH.nil
          simp only [List.getElem_toArray, List.getElem_cons_succ, List.getElem_cons_zero]
          go_simp
          refine (leaf_any nb hnb _).mono ?_
          rintro e' ub4 ⟨ql, rfl, hq, hqf, hb⟩
          have HU_ub3_ub4 := Lib.hid hb
          have HQL := Lib.hid hq; clear hq hqf hb
          have HU_ub2_ub4 := Lib.hid (HU_ub2_ub3.out.trans (HU_ub3_ub4.out.mono HU_ub2_ub3.out.size))
          have HU_ub1_ub4 := Lib.hid (HU_ub1_ub3.out.trans (HU_ub3_ub4.out.mono HU_ub1_ub3.out.size))
          have HU_wdh_ub4 := Lib.hid (HU_wdh_ub3.out.trans (HU_ub3_ub4.out.mono HU_wdh_ub3.out.size))
          refine hK.out _ _ HU_ub3_ub4.out (fun _ => ?_)
          clear hK
          try simp only [List.getElem_toArray, List.getElem_cons_succ, List.getElem_cons_zero, Act.put, List.setIfInBounds_toArray, List.set_cons_zero, List.set_cons_succ]
          have HSub4 : Hid (Below ub4.heap.size ub4 ub4) := Lib.hid (Below.refl _ _)
          refine Sha.wpAnyH_more (S' := fun W => Below ub4.heap.size ub4 W) (fun W h => HU_ub3_ub4.out.trans (h.mono HU_ub3_ub4.out.size)) _ _ _ _ ?_
          refine wpAnyH_ready (rs := [31]) (by kernel_rfl) (by simp) ?_
          refine AllReadyH.cons rfl (fun K' hK => ?_) AllReadyH.nil
          simp only [List.getElem_toArray, List.getElem_cons_succ, List.getElem_cons_zero]
          go_simp
          refine (sameNode_is qn ql (leafN nb) (leafN nb) true _ (HIN.out.below HU_wdh_ub4.out) HQL.out (by simp)).mono ?_
          rintro e' ub5 ⟨rfl, hb⟩
          have HU_ub4_ub5 := Lib.hid hb
          clear hb
          have HU_ub3_ub5 := Lib.hid (HU_ub3_ub4.out.trans (HU_ub4_ub5.out.mono HU_ub3_ub4.out.size))
          have HU_ub2_ub5 := Lib.hid (HU_ub2_ub4.out.trans (HU_ub4_ub5.out.mono HU_ub2_ub4.out.size))
          have HU_ub1_ub5 := Lib.hid (HU_ub1_ub4.out.trans (HU_ub4_ub5.out.mono HU_ub1_ub4.out.size))
          have HU_wdh_ub5 := Lib.hid (HU_wdh_ub4.out.trans (HU_ub4_ub5.out.mono HU_wdh_ub4.out.size))
          refine hK.out _ _ HU_ub4_ub5.out (fun _ => ?_)
          clear hK
          try simp only [List.getElem_toArray, List.getElem_cons_succ, List.getElem_cons_zero, Act.put, List.setIfInBounds_toArray, List.set_cons_zero, List.set_cons_succ]
          have HSub5 : Hid (Below ub5.heap.size ub5 ub5) := Lib.hid (Below.refl _ _)
          refine Sha.wpAnyH_more (S' := fun W => Below ub5.heap.size ub5 W) (fun W h => HU_ub4_ub5.out.trans (h.mono HU_ub4_ub5.out.size)) _ _ _ _ ?_
          refine wpAnyH_take (i := 32) (v := ?ve155) rfl (by kernel_rfl) (by kernel_rfl) (by kernel_rfl) (fun _ _ _ h => h) (Or.inl ⟨by rfl, ?ye155⟩) HSub5.out ?re155
          case ye155 => (intro w' hSw; clear hSw; go_simp; try with_reducible rfl)
          simp only [List.getElem_toArray, List.getElem_cons_succ, List.getElem_cons_zero, Act.put, List.setIfInBounds_toArray, List.set_cons_zero, List.set_cons_succ]
          refine wpAnyH_take (i := 33) (v := ?ve156) rfl (by kernel_rfl) (by kernel_rfl) (by kernel_rfl) (fun _ _ _ h => h) (Or.inl ⟨by rfl, ?ye156⟩) HSub5.out ?re156
          case ye156 => (intro w' hSw; clear hSw; go_simp; try with_reducible rfl)
          simp only [List.getElem_toArray, List.getElem_cons_succ, List.getElem_cons_zero, Act.put, List.setIfInBounds_toArray, List.set_cons_zero, List.set_cons_succ]
          refine wpAnyH_done (by kernel_rfl) ?_ _
          change Exit.then _ _ Exit.normal _ _
          go_wp2_with fail
          go_ret
          exact ⟨rfl, B0.out.trans ((HC7.out.trans (HU_wdh_ub5.out.mono HC7.out.size)).mono B0.out.size)⟩
      have yi : (i : Int) < (nl : Int) := by omega
      have HDr : Hid (Below w6.heap.size w6 wr.drew) := Lib.hid (HDu.out.trans (HW.out.mono HDu.out.size)).drew
      have HEr : Hid (Below w10.heap.size w10 wr.drew) := Lib.hid (HEu.out.trans (HW.out.mono HEu.out.size)).drew
      have HCr : Hid (Below W0.heap.size W0 wr.drew) := Lib.hid (HCu.out.trans (HW.out.mono HCu.out.size)).drew
      have HWr : Hid (Below ua6.heap.size ua6 wr.drew) := Lib.hid HW.out.drew
      have hmem : gi LV i ∈ leavesF ns d := by rw [HLs.out.1]; exact gi_mem (by rw [HLV6.out.len]; omega)
      have htj := mem_leavesF.1 hmem
      obtain ⟨j, hj⟩ := Int.eq_ofNat_of_zero_le htj.1
      rw [hj] at htj
      obtain ⟨e1, e2, e3, e4, e5, e6⟩ := added_same HR.out (leafN_right nb) (by rw [HX.out.2.1]; exact H6.out) j htj
      rw [HX.out.2.2] at e2 e4 e5 e6
      rw [HX.out.2.1, HX.out.1] at e4 e6
      rw [HX.out.1] at e1
      rw [HF3.out.1] at e4 e6
      rw [HN2'.out.len] at e2
      rw [HN.out.len] at e3
      rw [HN10.out.len] at e4
      have hjd := (there_nat.1 htj).1
      have hjs : 2 * j ≤ 9223372036854775807 := by have a1 := HN.out.2.1; have a2 := HN.out.2.2.1; omega
      obtain ⟨m, hm⟩ : ∃ m, 2 * j = m := ⟨_, rfl⟩
      rw [hm] at e2 e3 e4 e5 e6
      obtain ⟨aa, rfl⟩ := HLV6.out.some (by omega)
      obtain ⟨ad, rfl⟩ := HN.out.some (by omega)
      obtain ⟨qa, hata, hisa⟩ := (HN2'.out.below HDr.out).at m e2
      obtain ⟨qb, hatb, hisb⟩ := (HN.out.below HCr.out).at m e3
      obtain ⟨qc, hatc, hisc⟩ := (HN10.out.below HEr.out).at m e4
      rw [e5] at hisa
      rw [e6] at hisc
      obtain ⟨nn, hnn⟩ : ∃ x, nd ns m = x := ⟨_, rfl⟩
      rw [hnn] at hisa hisb hisc
      have HIA := Lib.hid hisa; have HIB := Lib.hid hisb; have HIC := Lib.hid hisc
      have HAA : Hid (∀ W, Below wr.drew.heap.size wr.drew W → NdAt W (a5.add (m * 6)) qa) := Lib.hid fun W hb => hata.of_block (hb.block _ (block_lt_of_cell hata.cells.1))
      have HAB : Hid (∀ W, Below wr.drew.heap.size wr.drew W → NdAt W (ad.add (m * 6)) qb) := Lib.hid fun W hb => hatb.of_block (hb.block _ (block_lt_of_cell hatb.cells.1))
      have HAC : Hid (∀ W, Below wr.drew.heap.size wr.drew W → NdAt W (a9.add (m * 6)) qc) := Lib.hid fun W hb => hatc.of_block (hb.block _ (block_lt_of_cell hatc.cells.1))
      have hc := (HLV6.out.below HDr.out).cell i hi
      rw [hj] at hc
      have HCC := Lib.hid hc
      have HLD : Hid (∀ W, Below wr.drew.heap.size wr.drew W → W.cell? (aa.add i) = some (.int .i64 (j : Int))) := Lib.hid fun W hb => (World.cell?_of_block (hb.block _ (block_lt_of_cell HCC.out))).trans HCC.out
      have k1 : ¬ (m : Int) < 0 := by omega
      have k2 : (m : Int) < (N2 : Int) := by omega
      have k3 : (m : Int) < (n9 : Int) := by omega
      have k4 : (m : Int) < (n : Int) := by omega
      have k5 : ¬ (m : Int) ≥ (N2 : Int) := by omega
      have k6 : ¬ (m : Int) ≥ (n9 : Int) := by omega
      have k7 : ¬ (m : Int) ≥ (n : Int) := by omega
      have k8 : ((j : Int) == (f2 : Int)) = false := by simp; omega
      have k9 : IntKind.i64.wrap (2 * (j : Int)) = (m : Int) := by rw [IntKind.wrap_i64]; omega
      have k10 : decide (n9 ≤ m) = false := by simp only [decide_eq_false_iff_not]; omega
      clear e1 e2 e3 e4 e5 e6 hm hmem htj hj hjd hjs hnn hata hatb hatc hisa hisb hisc hc HCC
      go_wp2_with fail
      try simp only [Act.put]
      refine Wr.region_calm ?_
      refine wp_region_any (by kernel_rfl) ?_
      change wpAny _ _ _ _ _ _ _ (World.drew wr)
      generalize World.drew wr = wde at *
      have HSwde : Hid (Below wde.heap.size wde wde) := Lib.hid (Below.refl _ _)
      refine wpAny_of_held (S := fun W => Below wde.heap.size wde W) _ _ _ _ ?_
      refine wpAnyH_take (i := 0) (v := ?ve54) rfl (by kernel_rfl) (by kernel_rfl) (by kernel_rfl) (fun _ _ _ h => h) (Or.inl ⟨by rfl, ?ye54⟩) HSwde.out ?re54
      case ye54 => (intro w' hSw; clear hSw; go_simp; try with_reducible rfl)
      simp only [List.getElem_toArray, List.getElem_cons_succ, List.getElem_cons_zero, Act.put, List.setIfInBounds_toArray, List.set_cons_zero, List.set_cons_succ]
      refine wpAnyH_take (i := 1) (v := ?ve55) rfl (by kernel_rfl) (by kernel_rfl) (by kernel_rfl) (fun _ _ _ h => h) (Or.inl ⟨by rfl, ?ye55⟩) HSwde.out ?re55
      case ye55 => (intro w' hSw; clear hSw; go_simp; try with_reducible rfl)
      simp only [List.getElem_toArray, List.getElem_cons_succ, List.getElem_cons_zero, Act.put, List.setIfInBounds_toArray, List.set_cons_zero, List.set_cons_succ]
      refine wpAnyH_take (i := 2) (v := ?ve56) rfl (by kernel_rfl) (by kernel_rfl) (by kernel_rfl) (fun _ _ _ h => h) (Or.inl ⟨by rfl, ?ye56⟩) HSwde.out ?re56
      case ye56 => (intro w' hSw; clear hSw; go_simp; try with_reducible rfl)
      simp only [List.getElem_toArray, List.getElem_cons_succ, List.getElem_cons_zero, Act.put, List.setIfInBounds_toArray, List.set_cons_zero, List.set_cons_succ]
      refine wpAnyH_take (i := 3) (v := ?ve57) rfl (by kernel_rfl) (by kernel_rfl) (by kernel_rfl) (fun _ _ _ h => h) (Or.inl ⟨by rfl, ?ye57⟩) HSwde.out ?re57
      case ye57 => (intro w' hSw; have hq_wde : Below wde.heap.size wde w' := hSw; have hq := hq_wde; obtain ⟨s0, s1⟩ := (HTR.out.below (HDr.out.trans (hq.mono HDr.out.size)) HLT.out).cs; obtain ⟨r0, r1⟩ := (HG10.out.below (HEr.out.trans (hq.mono HEr.out.size)) HLT10.out).cs; obtain ⟨t0, t1⟩ := (HG1.out.below (HCr.out.trans (hq.mono HCr.out.size)) HL1.out).cs; obtain ⟨p0, p1, p2, p3, p4, p5⟩ := (HAA.out _ hq).cells; obtain ⟨x0, x1, x2, x3, x4, x5⟩ := (HAB.out _ hq).cells; obtain ⟨z0, z1, z2, z3, z4, z5⟩ := (HAC.out _ hq).cells; have c0 := HLD.out _ hq; clear hSw; try clear hq hq_wde; go_simp; try with_reducible rfl)
      simp only [List.getElem_toArray, List.getElem_cons_succ, List.getElem_cons_zero, Act.put, List.setIfInBounds_toArray, List.set_cons_zero, List.set_cons_succ]
      refine wpAnyH_take (i := 4) (v := ?ve58) rfl (by kernel_rfl) (by kernel_rfl) (by kernel_rfl) (fun _ _ _ h => h) (Or.inl ⟨by rfl, ?ye58⟩) HSwde.out ?re58
      case ye58 => (intro w' hSw; clear hSw; go_simp; try with_reducible rfl)
      simp only [List.getElem_toArray, List.getElem_cons_succ, List.getElem_cons_zero, Act.put, List.setIfInBounds_toArray, List.set_cons_zero, List.set_cons_succ]
      refine wpAnyH_take (i := 5) (v := ?ve59) rfl (by kernel_rfl) (by kernel_rfl) (by kernel_rfl) (fun _ _ _ h => h) (Or.inl ⟨by rfl, ?ye59⟩) HSwde.out ?re59
      case ye59 => (intro w' hSw; clear hSw; go_simp; try with_reducible rfl)
      simp only [List.getElem_toArray, List.getElem_cons_succ, List.getElem_cons_zero, Act.put, List.setIfInBounds_toArray, List.set_cons_zero, List.set_cons_succ]
      refine wpAnyH_take (i := 6) (v := ?ve60) rfl (by kernel_rfl) (by kernel_rfl) (by kernel_rfl) (fun _ _ _ h => h) (Or.inl ⟨by rfl, ?ye60⟩) HSwde.out ?re60
      case ye60 => (intro w' hSw; clear hSw; go_simp; try with_reducible rfl)
      simp only [List.getElem_toArray, List.getElem_cons_succ, List.getElem_cons_zero, Act.put, List.setIfInBounds_toArray, List.set_cons_zero, List.set_cons_succ]
      refine wpAnyH_take (i := 7) (v := ?ve61) rfl (by kernel_rfl) (by kernel_rfl) (by kernel_rfl) (fun _ _ _ h => h) (Or.inl ⟨by rfl, ?ye61⟩) HSwde.out ?re61
      case ye61 => (intro w' hSw; clear hSw; go_simp; try with_reducible rfl)
      simp only [List.getElem_toArray, List.getElem_cons_succ, List.getElem_cons_zero, Act.put, List.setIfInBounds_toArray, List.set_cons_zero, List.set_cons_succ]
      refine wpAnyH_take (i := 8) (v := ?ve62) rfl (by kernel_rfl) (by kernel_rfl) (by kernel_rfl) (fun _ _ _ h => h) (Or.inl ⟨by rfl, ?ye62⟩) HSwde.out ?re62
      case ye62 => (intro w' hSw; clear hSw; go_simp; try with_reducible rfl)
      simp only [List.getElem_toArray, List.getElem_cons_succ, List.getElem_cons_zero, Act.put, List.setIfInBounds_toArray, List.set_cons_zero, List.set_cons_succ]
      refine wpAnyH_take (i := 9) (v := ?ve63) rfl (by kernel_rfl) (by kernel_rfl) (by kernel_rfl) (fun _ _ _ h => h) (Or.inl ⟨by rfl, ?ye63⟩) HSwde.out ?re63
      case ye63 => (intro w' hSw; clear hSw; go_simp; try with_reducible rfl)
      simp only [List.getElem_toArray, List.getElem_cons_succ, List.getElem_cons_zero, Act.put, List.setIfInBounds_toArray, List.set_cons_zero, List.set_cons_succ]
      refine wpAnyH_take (i := 10) (v := ?ve64) rfl (by kernel_rfl) (by kernel_rfl) (by kernel_rfl) (fun _ _ _ h => h) (Or.inl ⟨by rfl, ?ye64⟩) HSwde.out ?re64
      case ye64 => (intro w' hSw; have hq_wde : Below wde.heap.size wde w' := hSw; have hq := hq_wde; obtain ⟨s0, s1⟩ := (HTR.out.below (HDr.out.trans (hq.mono HDr.out.size)) HLT.out).cs; obtain ⟨r0, r1⟩ := (HG10.out.below (HEr.out.trans (hq.mono HEr.out.size)) HLT10.out).cs; obtain ⟨t0, t1⟩ := (HG1.out.below (HCr.out.trans (hq.mono HCr.out.size)) HL1.out).cs; obtain ⟨p0, p1, p2, p3, p4, p5⟩ := (HAA.out _ hq).cells; obtain ⟨x0, x1, x2, x3, x4, x5⟩ := (HAB.out _ hq).cells; obtain ⟨z0, z1, z2, z3, z4, z5⟩ := (HAC.out _ hq).cells; have c0 := HLD.out _ hq; clear hSw; try clear hq hq_wde; go_simp; try with_reducible rfl)
      simp only [List.getElem_toArray, List.getElem_cons_succ, List.getElem_cons_zero, Act.put, List.setIfInBounds_toArray, List.set_cons_zero, List.set_cons_succ]
      refine wpAnyH_take (i := 11) (v := ?ve65) rfl (by kernel_rfl) (by kernel_rfl) (by kernel_rfl) (fun _ _ _ h => h) (Or.inl ⟨by rfl, ?ye65⟩) HSwde.out ?re65
      case ye65 => (intro w' hSw; clear hSw; go_simp; try with_reducible rfl)
      simp only [List.getElem_toArray, List.getElem_cons_succ, List.getElem_cons_zero, Act.put, List.setIfInBounds_toArray, List.set_cons_zero, List.set_cons_succ]
      refine wpAnyH_take (i := 12) (v := ?ve66) rfl (by kernel_rfl) (by kernel_rfl) (by kernel_rfl) (fun _ _ _ h => h) (Or.inl ⟨by rfl, ?ye66⟩) HSwde.out ?re66
      case ye66 => (intro w' hSw; clear hSw; go_simp; try with_reducible rfl)
      simp only [List.getElem_toArray, List.getElem_cons_succ, List.getElem_cons_zero, Act.put, List.setIfInBounds_toArray, List.set_cons_zero, List.set_cons_succ]
      refine wpAnyH_take (i := 13) (v := ?ve67) rfl (by kernel_rfl) (by kernel_rfl) (by kernel_rfl) (fun _ _ _ h => h) (Or.inl ⟨by rfl, ?ye67⟩) HSwde.out ?re67
      case ye67 => (intro w' hSw; have hq_wde : Below wde.heap.size wde w' := hSw; have hq := hq_wde; obtain ⟨s0, s1⟩ := (HTR.out.below (HDr.out.trans (hq.mono HDr.out.size)) HLT.out).cs; obtain ⟨r0, r1⟩ := (HG10.out.below (HEr.out.trans (hq.mono HEr.out.size)) HLT10.out).cs; obtain ⟨t0, t1⟩ := (HG1.out.below (HCr.out.trans (hq.mono HCr.out.size)) HL1.out).cs; obtain ⟨p0, p1, p2, p3, p4, p5⟩ := (HAA.out _ hq).cells; obtain ⟨x0, x1, x2, x3, x4, x5⟩ := (HAB.out _ hq).cells; obtain ⟨z0, z1, z2, z3, z4, z5⟩ := (HAC.out _ hq).cells; have c0 := HLD.out _ hq; clear hSw; try clear hq hq_wde; go_simp; try with_reducible rfl)
      simp only [List.getElem_toArray, List.getElem_cons_succ, List.getElem_cons_zero, Act.put, List.setIfInBounds_toArray, List.set_cons_zero, List.set_cons_succ]
      refine wpAnyH_take (i := 14) (v := ?ve68) rfl (by kernel_rfl) (by kernel_rfl) (by kernel_rfl) (fun _ _ _ h => h) (Or.inl ⟨by rfl, ?ye68⟩) HSwde.out ?re68
      case ye68 => (intro w' hSw; clear hSw; go_simp; try with_reducible rfl)
      simp only [List.getElem_toArray, List.getElem_cons_succ, List.getElem_cons_zero, Act.put, List.setIfInBounds_toArray, List.set_cons_zero, List.set_cons_succ]
      refine wpAnyH_take (i := 15) (v := ?ve69) rfl (by kernel_rfl) (by kernel_rfl) (by kernel_rfl) (fun _ _ _ h => h) (Or.inl ⟨by rfl, ?ye69⟩) HSwde.out ?re69
      case ye69 => (intro w' hSw; clear hSw; go_simp; try with_reducible rfl)
      simp only [List.getElem_toArray, List.getElem_cons_succ, List.getElem_cons_zero, Act.put, List.setIfInBounds_toArray, List.set_cons_zero, List.set_cons_succ]
      refine wpAnyH_take (i := 16) (v := ?ve70) rfl (by kernel_rfl) (by kernel_rfl) (by kernel_rfl) (fun _ _ _ h => h) (Or.inl ⟨by rfl, ?ye70⟩) HSwde.out ?re70
      case ye70 => (intro w' hSw; clear hSw; go_simp; try with_reducible rfl)
      simp only [List.getElem_toArray, List.getElem_cons_succ, List.getElem_cons_zero, Act.put, List.setIfInBounds_toArray, List.set_cons_zero, List.set_cons_succ]
      refine wpAnyH_take (i := 17) (v := ?ve71) rfl (by kernel_rfl) (by kernel_rfl) (by kernel_rfl) (fun _ _ _ h => h) (Or.inl ⟨by rfl, ?ye71⟩) HSwde.out ?re71
      case ye71 => (intro w' hSw; clear hSw; go_simp; try with_reducible rfl)
      simp only [List.getElem_toArray, List.getElem_cons_succ, List.getElem_cons_zero, Act.put, List.setIfInBounds_toArray, List.set_cons_zero, List.set_cons_succ]
      refine wpAnyH_take (i := 18) (v := ?ve72) rfl (by kernel_rfl) (by kernel_rfl) (by kernel_rfl) (fun _ _ _ h => h) (Or.inl ⟨by rfl, ?ye72⟩) HSwde.out ?re72
      case ye72 => (intro w' hSw; clear hSw; go_simp; try with_reducible rfl)
      simp only [List.getElem_toArray, List.getElem_cons_succ, List.getElem_cons_zero, Act.put, List.setIfInBounds_toArray, List.set_cons_zero, List.set_cons_succ]
      refine wpAnyH_take (i := 19) (v := ?ve73) rfl (by kernel_rfl) (by kernel_rfl) (by kernel_rfl) (fun _ _ _ h => h) (Or.inl ⟨by rfl, ?ye73⟩) HSwde.out ?re73
      case ye73 => (intro w' hSw; have hq_wde : Below wde.heap.size wde w' := hSw; have hq := hq_wde; obtain ⟨s0, s1⟩ := (HTR.out.below (HDr.out.trans (hq.mono HDr.out.size)) HLT.out).cs; obtain ⟨r0, r1⟩ := (HG10.out.below (HEr.out.trans (hq.mono HEr.out.size)) HLT10.out).cs; obtain ⟨t0, t1⟩ := (HG1.out.below (HCr.out.trans (hq.mono HCr.out.size)) HL1.out).cs; obtain ⟨p0, p1, p2, p3, p4, p5⟩ := (HAA.out _ hq).cells; obtain ⟨x0, x1, x2, x3, x4, x5⟩ := (HAB.out _ hq).cells; obtain ⟨z0, z1, z2, z3, z4, z5⟩ := (HAC.out _ hq).cells; have c0 := HLD.out _ hq; clear hSw; try clear hq hq_wde; go_simp; try with_reducible rfl)
      simp only [List.getElem_toArray, List.getElem_cons_succ, List.getElem_cons_zero, Act.put, List.setIfInBounds_toArray, List.set_cons_zero, List.set_cons_succ]
      refine wpAnyH_take (i := 20) (v := ?ve74) rfl (by kernel_rfl) (by kernel_rfl) (by kernel_rfl) (fun _ _ _ h => h) (Or.inl ⟨by rfl, ?ye74⟩) HSwde.out ?re74
      case ye74 => (intro w' hSw; clear hSw; go_simp; try with_reducible rfl)
      simp only [List.getElem_toArray, List.getElem_cons_succ, List.getElem_cons_zero, Act.put, List.setIfInBounds_toArray, List.set_cons_zero, List.set_cons_succ]
      refine wpAnyH_take (i := 21) (v := ?ve75) rfl (by kernel_rfl) (by kernel_rfl) (by kernel_rfl) (fun _ _ _ h => h) (Or.inl ⟨by rfl, ?ye75⟩) HSwde.out ?re75
      case ye75 => (intro w' hSw; clear hSw; go_simp; try with_reducible rfl)
      simp only [List.getElem_toArray, List.getElem_cons_succ, List.getElem_cons_zero, Act.put, List.setIfInBounds_toArray, List.set_cons_zero, List.set_cons_succ]
      refine wpAnyH_take (i := 22) (v := ?ve76) rfl (by kernel_rfl) (by kernel_rfl) (by kernel_rfl) (fun _ _ _ h => h) (Or.inl ⟨by rfl, ?ye76⟩) HSwde.out ?re76
      case ye76 => (intro w' hSw; clear hSw; go_simp; try with_reducible rfl)
      simp only [List.getElem_toArray, List.getElem_cons_succ, List.getElem_cons_zero, Act.put, List.setIfInBounds_toArray, List.set_cons_zero, List.set_cons_succ]
      refine wpAnyH_take (i := 23) (v := ?ve77) rfl (by kernel_rfl) (by kernel_rfl) (by kernel_rfl) (fun _ _ _ h => h) (Or.inl ⟨by rfl, ?ye77⟩) HSwde.out ?re77
      case ye77 => (intro w' hSw; have hq_wde : Below wde.heap.size wde w' := hSw; have hq := hq_wde; obtain ⟨s0, s1⟩ := (HTR.out.below (HDr.out.trans (hq.mono HDr.out.size)) HLT.out).cs; obtain ⟨r0, r1⟩ := (HG10.out.below (HEr.out.trans (hq.mono HEr.out.size)) HLT10.out).cs; obtain ⟨t0, t1⟩ := (HG1.out.below (HCr.out.trans (hq.mono HCr.out.size)) HL1.out).cs; obtain ⟨p0, p1, p2, p3, p4, p5⟩ := (HAA.out _ hq).cells; obtain ⟨x0, x1, x2, x3, x4, x5⟩ := (HAB.out _ hq).cells; obtain ⟨z0, z1, z2, z3, z4, z5⟩ := (HAC.out _ hq).cells; have c0 := HLD.out _ hq; clear hSw; try clear hq hq_wde; go_simp; try with_reducible rfl)
      simp only [List.getElem_toArray, List.getElem_cons_succ, List.getElem_cons_zero, Act.put, List.setIfInBounds_toArray, List.set_cons_zero, List.set_cons_succ]
      refine wpAnyH_take (i := 24) (v := ?ve78) rfl (by kernel_rfl) (by kernel_rfl) (by kernel_rfl) (fun _ _ _ h => h) (Or.inl ⟨by rfl, ?ye78⟩) HSwde.out ?re78
      case ye78 => (intro w' hSw; clear hSw; go_simp; try with_reducible rfl)
      simp only [List.getElem_toArray, List.getElem_cons_succ, List.getElem_cons_zero, Act.put, List.setIfInBounds_toArray, List.set_cons_zero, List.set_cons_succ]
      refine wpAnyH_take (i := 25) (v := ?ve79) rfl (by kernel_rfl) (by kernel_rfl) (by kernel_rfl) (fun _ _ _ h => h) (Or.inl ⟨by rfl, ?ye79⟩) HSwde.out ?re79
      case ye79 => (intro w' hSw; clear hSw; go_simp; try with_reducible rfl)
      simp only [List.getElem_toArray, List.getElem_cons_succ, List.getElem_cons_zero, Act.put, List.setIfInBounds_toArray, List.set_cons_zero, List.set_cons_succ]
      refine wpAnyH_take (i := 26) (v := ?ve80) rfl (by kernel_rfl) (by kernel_rfl) (by kernel_rfl) (fun _ _ _ h => h) (Or.inl ⟨by rfl, ?ye80⟩) HSwde.out ?re80
      case ye80 => (intro w' hSw; have hq_wde : Below wde.heap.size wde w' := hSw; have hq := hq_wde; obtain ⟨s0, s1⟩ := (HTR.out.below (HDr.out.trans (hq.mono HDr.out.size)) HLT.out).cs; obtain ⟨r0, r1⟩ := (HG10.out.below (HEr.out.trans (hq.mono HEr.out.size)) HLT10.out).cs; obtain ⟨t0, t1⟩ := (HG1.out.below (HCr.out.trans (hq.mono HCr.out.size)) HL1.out).cs; obtain ⟨p0, p1, p2, p3, p4, p5⟩ := (HAA.out _ hq).cells; obtain ⟨x0, x1, x2, x3, x4, x5⟩ := (HAB.out _ hq).cells; obtain ⟨z0, z1, z2, z3, z4, z5⟩ := (HAC.out _ hq).cells; have c0 := HLD.out _ hq; clear hSw; try clear hq hq_wde; go_simp; try with_reducible rfl)
      simp only [List.getElem_toArray, List.getElem_cons_succ, List.getElem_cons_zero, Act.put, List.setIfInBounds_toArray, List.set_cons_zero, List.set_cons_succ]
      refine wpAnyH_take (i := 27) (v := ?ve81) rfl (by kernel_rfl) (by kernel_rfl) (by kernel_rfl) (fun _ _ _ h => h) (Or.inl ⟨by rfl, ?ye81⟩) HSwde.out ?re81
      case ye81 => (intro w' hSw; clear hSw; go_simp; try with_reducible rfl)
      simp only [List.getElem_toArray, List.getElem_cons_succ, List.getElem_cons_zero, Act.put, List.setIfInBounds_toArray, List.set_cons_zero, List.set_cons_succ]
      refine wpAnyH_take (i := 28) (v := ?ve82) rfl (by kernel_rfl) (by kernel_rfl) (by kernel_rfl) (fun _ _ _ h => h) (Or.inl ⟨by rfl, ?ye82⟩) HSwde.out ?re82
      case ye82 => (intro w' hSw; have hq_wde : Below wde.heap.size wde w' := hSw; have hq := hq_wde; obtain ⟨s0, s1⟩ := (HTR.out.below (HDr.out.trans (hq.mono HDr.out.size)) HLT.out).cs; obtain ⟨r0, r1⟩ := (HG10.out.below (HEr.out.trans (hq.mono HEr.out.size)) HLT10.out).cs; obtain ⟨t0, t1⟩ := (HG1.out.below (HCr.out.trans (hq.mono HCr.out.size)) HL1.out).cs; obtain ⟨p0, p1, p2, p3, p4, p5⟩ := (HAA.out _ hq).cells; obtain ⟨x0, x1, x2, x3, x4, x5⟩ := (HAB.out _ hq).cells; obtain ⟨z0, z1, z2, z3, z4, z5⟩ := (HAC.out _ hq).cells; have c0 := HLD.out _ hq; clear hSw; try clear hq hq_wde; go_simp; try with_reducible rfl)
      simp only [List.getElem_toArray, List.getElem_cons_succ, List.getElem_cons_zero, Act.put, List.setIfInBounds_toArray, List.set_cons_zero, List.set_cons_succ]
      refine wpAnyH_take (i := 29) (v := ?ve83) rfl (by kernel_rfl) (by kernel_rfl) (by kernel_rfl) (fun _ _ _ h => h) (Or.inl ⟨by rfl, ?ye83⟩) HSwde.out ?re83
      case ye83 => (intro w' hSw; clear hSw; go_simp; try with_reducible rfl)
      simp only [List.getElem_toArray, List.getElem_cons_succ, List.getElem_cons_zero, Act.put, List.setIfInBounds_toArray, List.set_cons_zero, List.set_cons_succ]
      refine wpAnyH_take (i := 30) (v := ?ve84) rfl (by kernel_rfl) (by kernel_rfl) (by kernel_rfl) (fun _ _ _ h => h) (Or.inl ⟨by rfl, ?ye84⟩) HSwde.out ?re84
      case ye84 => (intro w' hSw; clear hSw; go_simp; try with_reducible rfl)
      simp only [List.getElem_toArray, List.getElem_cons_succ, List.getElem_cons_zero, Act.put, List.setIfInBounds_toArray, List.set_cons_zero, List.set_cons_succ]
      refine wpAnyH_take (i := 31) (v := ?ve85) rfl (by kernel_rfl) (by kernel_rfl) (by kernel_rfl) (fun _ _ _ h => h) (Or.inl ⟨by rfl, ?ye85⟩) HSwde.out ?re85
      case ye85 => (intro w' hSw; clear hSw; go_simp; try with_reducible rfl)
      simp only [List.getElem_toArray, List.getElem_cons_succ, List.getElem_cons_zero, Act.put, List.setIfInBounds_toArray, List.set_cons_zero, List.set_cons_succ]
      refine wpAnyH_take (i := 32) (v := ?ve86) rfl (by kernel_rfl) (by kernel_rfl) (by kernel_rfl) (fun _ _ _ h => h) (Or.inl ⟨by rfl, ?ye86⟩) HSwde.out ?re86
      case ye86 => (intro w' hSw; have hq_wde : Below wde.heap.size wde w' := hSw; have hq := hq_wde; obtain ⟨s0, s1⟩ := (HTR.out.below (HDr.out.trans (hq.mono HDr.out.size)) HLT.out).cs; obtain ⟨r0, r1⟩ := (HG10.out.below (HEr.out.trans (hq.mono HEr.out.size)) HLT10.out).cs; obtain ⟨t0, t1⟩ := (HG1.out.below (HCr.out.trans (hq.mono HCr.out.size)) HL1.out).cs; obtain ⟨p0, p1, p2, p3, p4, p5⟩ := (HAA.out _ hq).cells; obtain ⟨x0, x1, x2, x3, x4, x5⟩ := (HAB.out _ hq).cells; obtain ⟨z0, z1, z2, z3, z4, z5⟩ := (HAC.out _ hq).cells; have c0 := HLD.out _ hq; clear hSw; try clear hq hq_wde; go_simp; try with_reducible rfl)
      simp only [List.getElem_toArray, List.getElem_cons_succ, List.getElem_cons_zero, Act.put, List.setIfInBounds_toArray, List.set_cons_zero, List.set_cons_succ]
      refine wpAnyH_take (i := 33) (v := ?ve87) rfl (by kernel_rfl) (by kernel_rfl) (by kernel_rfl) (fun _ _ _ h => h) (Or.inl ⟨by rfl, ?ye87⟩) HSwde.out ?re87
      case ye87 => (intro w' hSw; clear hSw; go_simp; try with_reducible rfl)
      simp only [List.getElem_toArray, List.getElem_cons_succ, List.getElem_cons_zero, Act.put, List.setIfInBounds_toArray, List.set_cons_zero, List.set_cons_succ]
      refine wpAnyH_take (i := 34) (v := ?ve88) rfl (by kernel_rfl) (by kernel_rfl) (by kernel_rfl) (fun _ _ _ h => h) (Or.inl ⟨by rfl, ?ye88⟩) HSwde.out ?re88
      case ye88 => (intro w' hSw; clear hSw; go_simp; try with_reducible rfl)
      simp only [List.getElem_toArray, List.getElem_cons_succ, List.getElem_cons_zero, Act.put, List.setIfInBounds_toArray, List.set_cons_zero, List.set_cons_succ]
      refine wpAnyH_take (i := 35) (v := ?ve89) rfl (by kernel_rfl) (by kernel_rfl) (by kernel_rfl) (fun _ _ _ h => h) (Or.inl ⟨by rfl, ?ye89⟩) HSwde.out ?re89
      case ye89 => (intro w' hSw; have hq_wde : Below wde.heap.size wde w' := hSw; have hq := hq_wde; obtain ⟨s0, s1⟩ := (HTR.out.below (HDr.out.trans (hq.mono HDr.out.size)) HLT.out).cs; obtain ⟨r0, r1⟩ := (HG10.out.below (HEr.out.trans (hq.mono HEr.out.size)) HLT10.out).cs; obtain ⟨t0, t1⟩ := (HG1.out.below (HCr.out.trans (hq.mono HCr.out.size)) HL1.out).cs; obtain ⟨p0, p1, p2, p3, p4, p5⟩ := (HAA.out _ hq).cells; obtain ⟨x0, x1, x2, x3, x4, x5⟩ := (HAB.out _ hq).cells; obtain ⟨z0, z1, z2, z3, z4, z5⟩ := (HAC.out _ hq).cells; have c0 := HLD.out _ hq; clear hSw; try clear hq hq_wde; go_simp; try with_reducible rfl)
      simp only [List.getElem_toArray, List.getElem_cons_succ, List.getElem_cons_zero, Act.put, List.setIfInBounds_toArray, List.set_cons_zero, List.set_cons_succ]
      refine wpAnyH_ready (rs := [36]) (by kernel_rfl) (by simp) ?_
      refine AllReadyH.cons rfl (fun K' hK => ?_) AllReadyH.nil
      simp only [List.getElem_toArray, List.getElem_cons_succ, List.getElem_cons_zero]
      go_simp
      refine (sameNode_is qa qb nn nn true _ HIA.out HIB.out (by simp)).mono ?_
      rintro e' v1 ⟨rfl, hb⟩
      have HU_wde_v1 := Lib.hid hb
      clear hb
      refine hK.out _ _ HU_wde_v1.out (fun _ => ?_)
      clear hK
      try simp only [List.getElem_toArray, List.getElem_cons_succ, List.getElem_cons_zero, Act.put, List.setIfInBounds_toArray, List.set_cons_zero, List.set_cons_succ]
      have HSv1 : Hid (Below v1.heap.size v1 v1) := Lib.hid (Below.refl _ _)
      refine Sha.wpAnyH_more (S' := fun W => Below v1.heap.size v1 W) (fun W h => HU_wde_v1.out.trans (h.mono HU_wde_v1.out.size)) _ _ _ _ ?_
      refine wpAnyH_take (i := 37) (v := ?ve90) rfl (by kernel_rfl) (by kernel_rfl) (by kernel_rfl) (fun _ _ _ h => h) (Or.inl ⟨by rfl, ?ye90⟩) HSv1.out ?re90
      case ye90 => (intro w' hSw; clear hSw; go_simp; try with_reducible rfl)
      simp only [List.getElem_toArray, List.getElem_cons_succ, List.getElem_cons_zero, Act.put, List.setIfInBounds_toArray, List.set_cons_zero, List.set_cons_succ]
      refine wpAnyH_take (i := 38) (v := ?ve91) rfl (by kernel_rfl) (by kernel_rfl) (by kernel_rfl) (fun _ _ _ h => h) (Or.inl ⟨by rfl, ?ye91⟩) HSv1.out ?re91
      case ye91 => (intro w' hSw; clear hSw; go_simp; try with_reducible rfl)
      simp only [List.getElem_toArray, List.getElem_cons_succ, List.getElem_cons_zero, Act.put, List.setIfInBounds_toArray, List.set_cons_zero, List.set_cons_succ]
      refine wpAnyH_take (i := 39) (v := ?ve92) rfl (by kernel_rfl) (by kernel_rfl) (by kernel_rfl) (fun _ _ _ h => h) (Or.inl ⟨by rfl, ?ye92⟩) HSv1.out ?re92
      case ye92 => (intro w' hSw; clear hSw; go_simp; try with_reducible rfl)
      simp only [List.getElem_toArray, List.getElem_cons_succ, List.getElem_cons_zero, Act.put, List.setIfInBounds_toArray, List.set_cons_zero, List.set_cons_succ]
      refine wpAnyH_take (i := 40) (v := ?ve93) rfl (by kernel_rfl) (by kernel_rfl) (by kernel_rfl) (fun _ _ _ h => h) (Or.inl ⟨by rfl, ?ye93⟩) HSv1.out ?re93
      case ye93 => (intro w' hSw; clear hSw; go_simp; try with_reducible rfl)
      simp only [List.getElem_toArray, List.getElem_cons_succ, List.getElem_cons_zero, Act.put, List.setIfInBounds_toArray, List.set_cons_zero, List.set_cons_succ]
      refine wpAnyH_take (i := 41) (v := ?ve94) rfl (by kernel_rfl) (by kernel_rfl) (by kernel_rfl) (fun _ _ _ h => h) (Or.inl ⟨by rfl, ?ye94⟩) HSv1.out ?re94
      case ye94 => (intro w' hSw; have hq_v1 : Below v1.heap.size v1 w' := hSw; have hq_wde : Below wde.heap.size wde w' := HU_wde_v1.out.trans (hSw.mono HU_wde_v1.out.size); have hq := hq_wde; obtain ⟨s0, s1⟩ := (HTR.out.below (HDr.out.trans (hq.mono HDr.out.size)) HLT.out).cs; obtain ⟨r0, r1⟩ := (HG10.out.below (HEr.out.trans (hq.mono HEr.out.size)) HLT10.out).cs; obtain ⟨t0, t1⟩ := (HG1.out.below (HCr.out.trans (hq.mono HCr.out.size)) HL1.out).cs; obtain ⟨p0, p1, p2, p3, p4, p5⟩ := (HAA.out _ hq).cells; obtain ⟨x0, x1, x2, x3, x4, x5⟩ := (HAB.out _ hq).cells; obtain ⟨z0, z1, z2, z3, z4, z5⟩ := (HAC.out _ hq).cells; have c0 := HLD.out _ hq; clear hSw; try clear hq hq_wde hq_v1; go_simp; try with_reducible rfl)
      simp only [List.getElem_toArray, List.getElem_cons_succ, List.getElem_cons_zero, Act.put, List.setIfInBounds_toArray, List.set_cons_zero, List.set_cons_succ]
      refine wpAnyH_take (i := 42) (v := ?ve95) rfl (by kernel_rfl) (by kernel_rfl) (by kernel_rfl) (fun _ _ _ h => h) (Or.inl ⟨by rfl, ?ye95⟩) HSv1.out ?re95
      case ye95 => (intro w' hSw; clear hSw; go_simp; try with_reducible rfl)
      simp only [List.getElem_toArray, List.getElem_cons_succ, List.getElem_cons_zero, Act.put, List.setIfInBounds_toArray, List.set_cons_zero, List.set_cons_succ]
      refine wpAnyH_take (i := 43) (v := ?ve96) rfl (by kernel_rfl) (by kernel_rfl) (by kernel_rfl) (fun _ _ _ h => h) (Or.inl ⟨by rfl, ?ye96⟩) HSv1.out ?re96
      case ye96 => (intro w' hSw; clear hSw; go_simp; try with_reducible rfl)
      simp only [List.getElem_toArray, List.getElem_cons_succ, List.getElem_cons_zero, Act.put, List.setIfInBounds_toArray, List.set_cons_zero, List.set_cons_succ]
      refine wpAnyH_take (i := 44) (v := ?ve97) rfl (by kernel_rfl) (by kernel_rfl) (by kernel_rfl) (fun _ _ _ h => h) (Or.inl ⟨by rfl, ?ye97⟩) HSv1.out ?re97
      case ye97 => (intro w' hSw; clear hSw; go_simp; try with_reducible rfl)
      simp only [List.getElem_toArray, List.getElem_cons_succ, List.getElem_cons_zero, Act.put, List.setIfInBounds_toArray, List.set_cons_zero, List.set_cons_succ]
      refine wpAnyH_take (i := 45) (v := ?ve98) rfl (by kernel_rfl) (by kernel_rfl) (by kernel_rfl) (fun _ _ _ h => h) (Or.inl ⟨by rfl, ?ye98⟩) HSv1.out ?re98
      case ye98 => (intro w' hSw; have hq_v1 : Below v1.heap.size v1 w' := hSw; have hq_wde : Below wde.heap.size wde w' := HU_wde_v1.out.trans (hSw.mono HU_wde_v1.out.size); have hq := hq_wde; obtain ⟨s0, s1⟩ := (HTR.out.below (HDr.out.trans (hq.mono HDr.out.size)) HLT.out).cs; obtain ⟨r0, r1⟩ := (HG10.out.below (HEr.out.trans (hq.mono HEr.out.size)) HLT10.out).cs; obtain ⟨t0, t1⟩ := (HG1.out.below (HCr.out.trans (hq.mono HCr.out.size)) HL1.out).cs; obtain ⟨p0, p1, p2, p3, p4, p5⟩ := (HAA.out _ hq).cells; obtain ⟨x0, x1, x2, x3, x4, x5⟩ := (HAB.out _ hq).cells; obtain ⟨z0, z1, z2, z3, z4, z5⟩ := (HAC.out _ hq).cells; have c0 := HLD.out _ hq; clear hSw; try clear hq hq_wde hq_v1; go_simp; try with_reducible rfl)
      simp only [List.getElem_toArray, List.getElem_cons_succ, List.getElem_cons_zero, Act.put, List.setIfInBounds_toArray, List.set_cons_zero, List.set_cons_succ]
      refine wpAnyH_take (i := 46) (v := ?ve99) rfl (by kernel_rfl) (by kernel_rfl) (by kernel_rfl) (fun _ _ _ h => h) (Or.inl ⟨by rfl, ?ye99⟩) HSv1.out ?re99
      case ye99 => (intro w' hSw; clear hSw; go_simp; try with_reducible rfl)
      simp only [List.getElem_toArray, List.getElem_cons_succ, List.getElem_cons_zero, Act.put, List.setIfInBounds_toArray, List.set_cons_zero, List.set_cons_succ]
      refine wpAnyH_take (i := 47) (v := ?ve100) rfl (by kernel_rfl) (by kernel_rfl) (by kernel_rfl) (fun _ _ _ h => h) (Or.inl ⟨by rfl, ?ye100⟩) HSv1.out ?re100
      case ye100 => (intro w' hSw; clear hSw; go_simp; try with_reducible rfl)
      simp only [List.getElem_toArray, List.getElem_cons_succ, List.getElem_cons_zero, Act.put, List.setIfInBounds_toArray, List.set_cons_zero, List.set_cons_succ]
      refine wpAnyH_take (i := 48) (v := ?ve101) rfl (by kernel_rfl) (by kernel_rfl) (by kernel_rfl) (fun _ _ _ h => h) (Or.inl ⟨by rfl, ?ye101⟩) HSv1.out ?re101
      case ye101 => (intro w' hSw; have hq_v1 : Below v1.heap.size v1 w' := hSw; have hq_wde : Below wde.heap.size wde w' := HU_wde_v1.out.trans (hSw.mono HU_wde_v1.out.size); have hq := hq_wde; obtain ⟨s0, s1⟩ := (HTR.out.below (HDr.out.trans (hq.mono HDr.out.size)) HLT.out).cs; obtain ⟨r0, r1⟩ := (HG10.out.below (HEr.out.trans (hq.mono HEr.out.size)) HLT10.out).cs; obtain ⟨t0, t1⟩ := (HG1.out.below (HCr.out.trans (hq.mono HCr.out.size)) HL1.out).cs; obtain ⟨p0, p1, p2, p3, p4, p5⟩ := (HAA.out _ hq).cells; obtain ⟨x0, x1, x2, x3, x4, x5⟩ := (HAB.out _ hq).cells; obtain ⟨z0, z1, z2, z3, z4, z5⟩ := (HAC.out _ hq).cells; have c0 := HLD.out _ hq; clear hSw; try clear hq hq_wde hq_v1; go_simp; try with_reducible rfl)
      simp only [List.getElem_toArray, List.getElem_cons_succ, List.getElem_cons_zero, Act.put, List.setIfInBounds_toArray, List.set_cons_zero, List.set_cons_succ]
      refine wpAnyH_take (i := 49) (v := ?ve102) rfl (by kernel_rfl) (by kernel_rfl) (by kernel_rfl) (fun _ _ _ h => h) (Or.inl ⟨by rfl, ?ye102⟩) HSv1.out ?re102
      case ye102 => (intro w' hSw; clear hSw; go_simp; try with_reducible rfl)
      simp only [List.getElem_toArray, List.getElem_cons_succ, List.getElem_cons_zero, Act.put, List.setIfInBounds_toArray, List.set_cons_zero, List.set_cons_succ]
      refine wpAnyH_take (i := 50) (v := ?ve103) rfl (by kernel_rfl) (by kernel_rfl) (by kernel_rfl) (fun _ _ _ h => h) (Or.inl ⟨by rfl, ?ye103⟩) HSv1.out ?re103
      case ye103 => (intro w' hSw; have hq_v1 : Below v1.heap.size v1 w' := hSw; have hq_wde : Below wde.heap.size wde w' := HU_wde_v1.out.trans (hSw.mono HU_wde_v1.out.size); have hq := hq_wde; obtain ⟨s0, s1⟩ := (HTR.out.below (HDr.out.trans (hq.mono HDr.out.size)) HLT.out).cs; obtain ⟨r0, r1⟩ := (HG10.out.below (HEr.out.trans (hq.mono HEr.out.size)) HLT10.out).cs; obtain ⟨t0, t1⟩ := (HG1.out.below (HCr.out.trans (hq.mono HCr.out.size)) HL1.out).cs; obtain ⟨p0, p1, p2, p3, p4, p5⟩ := (HAA.out _ hq).cells; obtain ⟨x0, x1, x2, x3, x4, x5⟩ := (HAB.out _ hq).cells; obtain ⟨z0, z1, z2, z3, z4, z5⟩ := (HAC.out _ hq).cells; have c0 := HLD.out _ hq; clear hSw; try clear hq hq_wde hq_v1; go_simp; try with_reducible rfl)
      simp only [List.getElem_toArray, List.getElem_cons_succ, List.getElem_cons_zero, Act.put, List.setIfInBounds_toArray, List.set_cons_zero, List.set_cons_succ]
      refine wpAnyH_take (i := 51) (v := ?ve104) rfl (by kernel_rfl) (by kernel_rfl) (by kernel_rfl) (fun _ _ _ h => h) (Or.inl ⟨by rfl, ?ye104⟩) HSv1.out ?re104
      case ye104 => (intro w' hSw; clear hSw; go_simp; try with_reducible rfl)
      simp only [List.getElem_toArray, List.getElem_cons_succ, List.getElem_cons_zero, Act.put, List.setIfInBounds_toArray, List.set_cons_zero, List.set_cons_succ]
      refine wpAnyH_take (i := 52) (v := ?ve105) rfl (by kernel_rfl) (by kernel_rfl) (by kernel_rfl) (fun _ _ _ h => h) (Or.inl ⟨by rfl, ?ye105⟩) HSv1.out ?re105
      case ye105 => (intro w' hSw; clear hSw; go_simp; try with_reducible rfl)
      simp only [List.getElem_toArray, List.getElem_cons_succ, List.getElem_cons_zero, Act.put, List.setIfInBounds_toArray, List.set_cons_zero, List.set_cons_succ]
      refine wpAnyH_take (i := 53) (v := ?ve106) rfl (by kernel_rfl) (by kernel_rfl) (by kernel_rfl) (fun _ _ _ h => h) (Or.inl ⟨by rfl, ?ye106⟩) HSv1.out ?re106
      case ye106 => (intro w' hSw; clear hSw; go_simp; try with_reducible rfl)
      simp only [List.getElem_toArray, List.getElem_cons_succ, List.getElem_cons_zero, Act.put, List.setIfInBounds_toArray, List.set_cons_zero, List.set_cons_succ]
      refine wpAnyH_take (i := 54) (v := ?ve107) rfl (by kernel_rfl) (by kernel_rfl) (by kernel_rfl) (fun _ _ _ h => h) (Or.inl ⟨by rfl, ?ye107⟩) HSv1.out ?re107
      case ye107 => (intro w' hSw; have hq_v1 : Below v1.heap.size v1 w' := hSw; have hq_wde : Below wde.heap.size wde w' := HU_wde_v1.out.trans (hSw.mono HU_wde_v1.out.size); have hq := hq_wde; obtain ⟨s0, s1⟩ := (HTR.out.below (HDr.out.trans (hq.mono HDr.out.size)) HLT.out).cs; obtain ⟨r0, r1⟩ := (HG10.out.below (HEr.out.trans (hq.mono HEr.out.size)) HLT10.out).cs; obtain ⟨t0, t1⟩ := (HG1.out.below (HCr.out.trans (hq.mono HCr.out.size)) HL1.out).cs; obtain ⟨p0, p1, p2, p3, p4, p5⟩ := (HAA.out _ hq).cells; obtain ⟨x0, x1, x2, x3, x4, x5⟩ := (HAB.out _ hq).cells; obtain ⟨z0, z1, z2, z3, z4, z5⟩ := (HAC.out _ hq).cells; have c0 := HLD.out _ hq; clear hSw; try clear hq hq_wde hq_v1; go_simp; try with_reducible rfl)
      simp only [List.getElem_toArray, List.getElem_cons_succ, List.getElem_cons_zero, Act.put, List.setIfInBounds_toArray, List.set_cons_zero, List.set_cons_succ]
      refine wpAnyH_take (i := 55) (v := ?ve108) rfl (by kernel_rfl) (by kernel_rfl) (by kernel_rfl) (fun _ _ _ h => h) (Or.inl ⟨by rfl, ?ye108⟩) HSv1.out ?re108
      case ye108 => (intro w' hSw; clear hSw; go_simp; try with_reducible rfl)
      simp only [List.getElem_toArray, List.getElem_cons_succ, List.getElem_cons_zero, Act.put, List.setIfInBounds_toArray, List.set_cons_zero, List.set_cons_succ]
      refine wpAnyH_take (i := 56) (v := ?ve109) rfl (by kernel_rfl) (by kernel_rfl) (by kernel_rfl) (fun _ _ _ h => h) (Or.inl ⟨by rfl, ?ye109⟩) HSv1.out ?re109
      case ye109 => (intro w' hSw; clear hSw; go_simp; try with_reducible rfl)
      simp only [List.getElem_toArray, List.getElem_cons_succ, List.getElem_cons_zero, Act.put, List.setIfInBounds_toArray, List.set_cons_zero, List.set_cons_succ]
      refine wpAnyH_take (i := 57) (v := ?ve110) rfl (by kernel_rfl) (by kernel_rfl) (by kernel_rfl) (fun _ _ _ h => h) (Or.inl ⟨by rfl, ?ye110⟩) HSv1.out ?re110
      case ye110 => (intro w' hSw; have hq_v1 : Below v1.heap.size v1 w' := hSw; have hq_wde : Below wde.heap.size wde w' := HU_wde_v1.out.trans (hSw.mono HU_wde_v1.out.size); have hq := hq_wde; obtain ⟨s0, s1⟩ := (HTR.out.below (HDr.out.trans (hq.mono HDr.out.size)) HLT.out).cs; obtain ⟨r0, r1⟩ := (HG10.out.below (HEr.out.trans (hq.mono HEr.out.size)) HLT10.out).cs; obtain ⟨t0, t1⟩ := (HG1.out.below (HCr.out.trans (hq.mono HCr.out.size)) HL1.out).cs; obtain ⟨p0, p1, p2, p3, p4, p5⟩ := (HAA.out _ hq).cells; obtain ⟨x0, x1, x2, x3, x4, x5⟩ := (HAB.out _ hq).cells; obtain ⟨z0, z1, z2, z3, z4, z5⟩ := (HAC.out _ hq).cells; have c0 := HLD.out _ hq; clear hSw; try clear hq hq_wde hq_v1; go_simp; try with_reducible rfl)
      simp only [List.getElem_toArray, List.getElem_cons_succ, List.getElem_cons_zero, Act.put, List.setIfInBounds_toArray, List.set_cons_zero, List.set_cons_succ]
      refine wpAnyH_ready (rs := [58]) (by kernel_rfl) (by simp) ?_
      refine AllReadyH.cons rfl (fun K' hK => ?_) AllReadyH.nil
      simp only [List.getElem_toArray, List.getElem_cons_succ, List.getElem_cons_zero]
      go_simp
      refine (sameNode_is qc qb nn nn true _ (HIC.out.below HU_wde_v1.out) (HIB.out.below HU_wde_v1.out) (by simp)).mono ?_
      rintro e' v2 ⟨rfl, hb⟩
      have HU_v1_v2 := Lib.hid hb
      clear hb
      have HU_wde_v2 := Lib.hid (HU_wde_v1.out.trans (HU_v1_v2.out.mono HU_wde_v1.out.size))
      refine hK.out _ _ HU_v1_v2.out (fun _ => ?_)
      clear hK
      try simp only [List.getElem_toArray, List.getElem_cons_succ, List.getElem_cons_zero, Act.put, List.setIfInBounds_toArray, List.set_cons_zero, List.set_cons_succ]
      have HSv2 : Hid (Below v2.heap.size v2 v2) := Lib.hid (Below.refl _ _)
      refine Sha.wpAnyH_more (S' := fun W => Below v2.heap.size v2 W) (fun W h => HU_v1_v2.out.trans (h.mono HU_v1_v2.out.size)) _ _ _ _ ?_
      refine wpAnyH_take (i := 59) (v := ?ve111) rfl (by kernel_rfl) (by kernel_rfl) (by kernel_rfl) (fun _ _ _ h => h) (Or.inl ⟨by rfl, ?ye111⟩) HSv2.out ?re111
      case ye111 => (intro w' hSw; clear hSw; go_simp; try with_reducible rfl)
      simp only [List.getElem_toArray, List.getElem_cons_succ, List.getElem_cons_zero, Act.put, List.setIfInBounds_toArray, List.set_cons_zero, List.set_cons_succ]
      refine wpAnyH_take (i := 60) (v := ?ve112) rfl (by kernel_rfl) (by kernel_rfl) (by kernel_rfl) (fun _ _ _ h => h) (Or.inl ⟨by rfl, ?ye112⟩) HSv2.out ?re112
      case ye112 => (intro w' hSw; clear hSw; go_simp; try with_reducible rfl)
      simp only [List.getElem_toArray, List.getElem_cons_succ, List.getElem_cons_zero, Act.put, List.setIfInBounds_toArray, List.set_cons_zero, List.set_cons_succ]
      refine wpAnyH_done (by kernel_rfl) ?_ _
      change Exit.then _ _ Exit.normal _ _
      have HWn : Hid (Below ua6.heap.size ua6 v2) := Lib.hid (HWr.out.trans (HU_wde_v2.out.mono HWr.out.size))
      have kn : IntKind.i64.wrap ((i : Int) + 1) = ((i + 1 : Nat) : Int) := by have := HNL.out; rw [IntKind.wrap_i64]; omega
      clear k1 k2 k3 k4 k5 k6 k7 k8 k9 k10
      go_wp2
      go_roundw
      case rel => exact ⟨i + 1, by omega, by go_num, HWn⟩
      case measure => simp [intOf]; omega
end Go.Proofs.YtophnoaneoeiaaaGreatDoor.Rt
