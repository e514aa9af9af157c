/- Walks: the laws' head. Written by tools/mk_rthead.py. -/
import Derived.Test.YtakglldffpnlaaaGreatDoorRtM2
namespace Go.Proofs.YtakglldffpnlaaaGreatDoor.Rt
set_option linter.all false
open Go.RowKit Iter
open Wr (Txt Any New)
attribute [local go_sem] Oper.semAt_some

theorem head_begin (w : World) : ∃ W1, ((w.alloc (.cells zeroQ.cs 28)).alloc (.cells #[.int .i64 0, .slice (some ⟨w.heap.size, 0, none⟩) 1 1] 24)) = W1 ∧ W1.heap.size = w.heap.size + 1 + 1 ∧ Below w.heap.size w W1 ∧ TrB 0 (some ⟨w.heap.size, 0, none⟩) 1 1 W1 (w.heap.size + 1) ∧ OwnN (fun _ => False) W1 w.heap.size w.heap.size 1 1 [blank] := by
  obtain ⟨Wa, hWa⟩ : ∃ Wa, w.alloc (.cells zeroQ.cs 28) = Wa := ⟨_, rfl⟩
  have sa : Wa.heap.size = w.heap.size + 1 := by rw [← hWa, World.size_alloc]
  have ba : Below w.heap.size w Wa := by rw [← hWa]; exact below_one _ _
  have ha : Wa.heap[w.heap.size]? = some (.cells zeroQ.cs 28 (0, 0)) := by rw [← hWa]; exact heap_alloc_last _ _
  have oa : OwnN (fun _ => False) Wa w.heap.size w.heap.size 1 1 [blank] := ⟨fun _ h => h.elim, [zeroQ], rfl, rfl, ⟨rfl, .inr ⟨w.heap.size, 1, _, rfl, Nat.le_refl _, ha, Nat.le_refl _, (by decide), rfl, rfl⟩⟩, fun j q hq => by
    cases j with
    | zero => injection hq with hq; subst hq; exact ⟨NdIs.zero _ _, NdFar.zero _⟩
    | succ j => simp at hq⟩
  rw [hWa]
  refine ⟨_, rfl, by rw [World.size_alloc, sa], ba.trans ((below_one Wa _).mono (by omega)), ?_, oa.below (below_one Wa _)⟩
  rw [← sa]
  exact TrB.new _ _ _ _ _

set_option maxHeartbeats 8000000 in
set_option maxRecDepth 100000 in
theorem head_true (w : World) (hT : Tabs w) : Calls Tryz.prog 6 #[] w fun e w' => e = .returned (.bool true) ∧ Below w.heap.size w w' := by
  obtain ⟨W1, hW1, hs1, hb1, ht1, ho1⟩ := head_begin w
  have HT := Lib.hid hT; have HB1 := Lib.hid hb1; have HT1 := Lib.hid ht1; have HO1 := Lib.hid ho1; have HS1 := Lib.hid hs1
  clear hT hb1 ht1 ho1 hs1
  dsimp only [zeroQ, NdQ.cs] at hW1
  refine callsIn_wide.1 (callsIn_of_wp (n := 0) Tryz.func6 rfl trivial ?_ rfl)
  simp only [Tryz.ntmps6, List.size_toArray, List.length_cons, List.length_nil, Nat.reduceAdd, Nat.reduceSub, Array.replicate_succ, Array.replicate_zero, List.push_toArray, List.append_toArray, List.nil_append, List.cons_append]
  gi_wp2_with fail
  obtain ⟨t0, t1⟩ := HT1.out.cs
  refine wpIn_mono (Q := norm fun a W => ∃ b2 g2 bs2 v9 v10 v11 v12 v13 v14 v15 v16 v17 v18, a = { tmps := #[.bool false, .pointer (some ⟨w.heap.size + 1, 0, none⟩), .pointer (some ⟨b2, 0, none⟩), .int .i64 0, .int .i64 0, undef, undef, undef, undef, v9, v10, v11, v12, v13, v14, v15, v16, v17, v18, undef, undef, undef, undef, undef, undef, undef, undef, undef, undef, undef, undef, undef, undef, undef, undef, undef, undef, undef, undef, undef, undef, undef, undef, undef, undef, undef, undef, undef, undef, undef, undef, undef, undef, undef, undef, undef, undef, undef, undef, undef, undef, undef, undef, undef, undef, undef, undef, undef, undef, undef, undef, undef, undef, undef], defers := [] } ∧ Hid (OwnN (fun x => x ≠ g2 ∧ x ≠ b2) W bs2 g2 1 1 [leafN 1]) ∧ Hid (TrB 0 (some ⟨g2, 0, none⟩) 1 1 W b2) ∧ Hid (Below W1.heap.size W1 W)) ?cut2 ?rest2
  case cut2 =>
    refine region_drawn_in (plain_wide _) (by kernel_rfl) (by kernel_rfl) ?_
    have HS : Hid (Below W1.heap.size W1 W1.drew) := Lib.hid ((Below.refl _ _).drew)
    generalize W1.drew = wd at *
    clear t0 t1
    refine wpAny_of_held (S := fun W => Below W1.heap.size W1 W) _ _ _ _ ?_
    refine wpAnyH_take (i := 0) (v := ?vh21) rfl (by kernel_rfl) (by kernel_rfl) (by kernel_rfl) (fun _ _ _ h => h) (Or.inl ⟨by rfl, ?yh21⟩) HS.out ?rh21
    case yh21 => (intro w' hSw; obtain ⟨x0, x1⟩ := ((HT1).out.below hSw (HT1).out.lt).cs; clear hSw; go_simp; try with_reducible rfl)
    simp only [List.getElem_toArray, List.getElem_cons_succ, List.getElem_cons_zero, Act.put, List.setIfInBounds_toArray, List.set_cons_zero, List.set_cons_succ]
    refine wpAnyH_ready (rs := [1, 7]) (by kernel_rfl) (by simp) ?_
    refine AllReadyH.cons rfl (fun K' hK => ?_) (AllReadyH.cons rfl (fun K' hK => ?_) AllReadyH.nil)
    · skip
      simp only [List.getElem_toArray, List.getElem_cons_succ, List.getElem_cons_zero]
      go_simp
      refine (leaf_any 1 (by omega) wd).mono ?_
      rintro e' wl ⟨ql, rfl, hq, hqf, hbl⟩
      have HQ := Lib.hid hq; have HQF := Lib.hid hqf; have HBL := Lib.hid hbl
      have HSl := Lib.hid (HS.out.trans (hbl.mono HS.out.size))
      clear hq hqf hbl
      refine hK.out _ _ HSl.out (fun _ => ?_)
      clear hK
      try simp only [List.getElem_toArray, List.getElem_cons_succ, List.getElem_cons_zero, Act.put, List.setIfInBounds_toArray, List.set_cons_zero, List.set_cons_succ]
      refine wpAnyH_ready (rs := [2, 7]) (by kernel_rfl) (by simp) ?_
      refine AllReadyH.cons rfl (fun K' hK => ?_) (AllReadyH.cons rfl (fun K' hK => ?_) AllReadyH.nil)
      · skip
        simp only [List.getElem_toArray, List.getElem_cons_succ, List.getElem_cons_zero]
        go_simp
        refine (head_add 0 [blank] 1 0 0 1 1 [leafN 1] add_x right_t (by omega) rfl w.heap.size w.heap.size wl.heap.size ql wl ((HO1.out.below HSl.out).mono (fun x hx => hx.elim) (fun x hx => hx.1)) (HQ.out) (HQ.out.far.mono fun x hx => by omega) (HT.out.below (HB1.out.trans (HSl.out.mono HB1.out.size))) (.inr (Nat.le_refl _))).mono ?_
        rintro e' wn ⟨gg, bb, rfl, hg2, hon, hbn⟩
        have HG2 := Lib.hid hg2; have HON := Lib.hid hon; have HBN := Lib.hid hbn
        have HSn := Lib.hid (HSl.out.trans (hbn.mono HSl.out.size))
        clear hg2 hon hbn
        refine hK.out _ _ HSn.out (fun _ => ?_)
        clear hK
        try simp only [List.getElem_toArray, List.getElem_cons_succ, List.getElem_cons_zero, Act.put, List.setIfInBounds_toArray, List.set_cons_zero, List.set_cons_succ]
        refine wpAnyH_take (i := 3) (v := ?vh22) rfl (by kernel_rfl) (by kernel_rfl) (by kernel_rfl) (fun _ _ _ h => h) (Or.inl ⟨by rfl, ?yh22⟩) HSn.out ?rh22
        case yh22 => (intro w' hSw; clear hSw; go_simp; try with_reducible rfl)
        simp only [List.getElem_toArray, List.getElem_cons_succ, List.getElem_cons_zero, Act.put, List.setIfInBounds_toArray, List.set_cons_zero, List.set_cons_succ]
        refine wpAnyH_take (i := 4) (v := ?vh23) rfl (by kernel_rfl) (by kernel_rfl) (by kernel_rfl) (fun _ _ _ h => h) (Or.inl ⟨by rfl, ?yh23⟩) HSn.out ?rh23
        case yh23 => (intro w' hSw; clear hSw; go_simp; try with_reducible rfl)
        simp only [List.getElem_toArray, List.getElem_cons_succ, List.getElem_cons_zero, Act.put, List.setIfInBounds_toArray, List.set_cons_zero, List.set_cons_succ]
        refine wpAnyH_take (i := 5) (v := ?vh24) rfl (by kernel_rfl) (by kernel_rfl) (by kernel_rfl) (fun _ _ _ h => h) (Or.inl ⟨by rfl, ?yh24⟩) HSn.out ?rh24
        case yh24 => (intro w' hSw; clear hSw; go_simp; try with_reducible rfl)
        simp only [List.getElem_toArray, List.getElem_cons_succ, List.getElem_cons_zero, Act.put, List.setIfInBounds_toArray, List.set_cons_zero, List.set_cons_succ]
        refine wpAnyH_take (i := 6) (v := ?vh25) rfl (by kernel_rfl) (by kernel_rfl) (by kernel_rfl) (fun _ _ _ h => h) (Or.inl ⟨by rfl, ?yh25⟩) HSn.out ?rh25
        case yh25 => (intro w' hSw; clear hSw; go_simp; try with_reducible rfl)
        simp only [List.getElem_toArray, List.getElem_cons_succ, List.getElem_cons_zero, Act.put, List.setIfInBounds_toArray, List.set_cons_zero, List.set_cons_succ]
        refine wpAnyH_ready (rs := [7]) (by kernel_rfl) (by simp) ?_
        refine AllReadyH.cons rfl (fun K' hK => ?_) AllReadyH.nil
        simp only [List.getElem_toArray, List.getElem_cons_succ, List.getElem_cons_zero]
        go_simp
        have ba := below_one wn (.cells zt 24)
        have za := heap_alloc_last wn (.cells zt 24)
        obtain ⟨wa, hwa⟩ : ∃ wa, wn.alloc (.cells zt 24) = wa := ⟨_, rfl⟩
        rw [hwa] at ba za
        try rw [hwa]
        have HBA := Lib.hid ba
        have HZA : Hid (wn.heap.size < wa.heap.size ∧ wa.heap[wn.heap.size]? = some (.cells zt 24 (0, 0))) := Lib.hid ⟨(Array.getElem?_eq_some_iff.1 za).1, za⟩
        have HSa := Lib.hid (HSn.out.trans (ba.mono HSn.out.size))
        clear hwa ba za
        refine hK.out _ _ HSa.out (fun _ => ?_)
        clear hK
        try simp only [List.getElem_toArray, List.getElem_cons_succ, List.getElem_cons_zero, Act.put, List.setIfInBounds_toArray, List.set_cons_zero, List.set_cons_succ]
        refine wpAnyH_ready (rs := [8]) (by kernel_rfl) (by simp) ?_
        refine AllReadyH.cons rfl (fun K' hK => ?_) AllReadyH.nil
        simp only [List.getElem_toArray, List.getElem_cons_succ, List.getElem_cons_zero]
        rw [if_pos (by rfl)]
        have hzz : wa.heap[wn.heap.size]? = some (.cells zt 24 (0, 0)) := HZA.out.2
        have hle := HSa.out.size
        have hBle : W1.heap.size ≤ wn.heap.size := by have := HSn.out.size; omega
        refine wp_store_row 24 (.tmp 2) (.tmp 16) rfl (wn.heap.size) #[.int .i64 0, .slice (some ⟨gg, 0, none⟩) 1 1] rfl rfl 24 zt hzz (tr_sized _ _ _ _) rfl (tr_all _ _ _ _) ?_
        have HFO : Hid (OwnN (fun x => x ≠ gg ∧ x ≠ wn.heap.size) (wa.setRow (wn.heap.size) #[.int .i64 0, .slice (some ⟨gg, 0, none⟩) 1 1]) bb gg 1 1 [leafN 1]) := Lib.hid (((HON.out.below HBA.out).mono (fun x hx => ⟨hx.1, by have := hx.2.2; omega⟩) (fun x hx => hx.1)).setRow (by have := HON.out.lt.2; omega) (fun h => h.2 rfl) _)
        have HFT : Hid (TrB 0 (some ⟨gg, 0, none⟩) 1 1 (wa.setRow (wn.heap.size) #[.int .i64 0, .slice (some ⟨gg, 0, none⟩) 1 1]) (wn.heap.size)) := Lib.hid (setRow_heap wa (wn.heap.size) _ _ _ _ hzz)
        have HFS := Lib.hid (below_setRow HSa.out hBle #[.int .i64 0, .slice (some ⟨gg, 0, none⟩) 1 1])
        clear hzz hle hBle
        refine hK.out _ _ HFS.out (fun _ => ?_)
        clear hK
        try simp only [List.getElem_toArray, List.getElem_cons_succ, List.getElem_cons_zero, Act.put, List.setIfInBounds_toArray, List.set_cons_zero, List.set_cons_succ]
        refine wpAnyH_take (i := 9) (v := ?vh26) rfl (by kernel_rfl) (by kernel_rfl) (by kernel_rfl) (fun _ _ _ h => h) (Or.inl ⟨by rfl, ?yh26⟩) HFS.out ?rh26
        case yh26 => (intro w' hSw; clear hSw; go_simp; try with_reducible rfl)
        simp only [List.getElem_toArray, List.getElem_cons_succ, List.getElem_cons_zero, Act.put, List.setIfInBounds_toArray, List.set_cons_zero, List.set_cons_succ]
        refine wpAnyH_take (i := 10) (v := ?vh27) rfl (by kernel_rfl) (by kernel_rfl) (by kernel_rfl) (fun _ _ _ h => h) (Or.inl ⟨by rfl, ?yh27⟩) HFS.out ?rh27
        case yh27 => (intro w' hSw; clear hSw; go_simp; try with_reducible rfl)
        simp only [List.getElem_toArray, List.getElem_cons_succ, List.getElem_cons_zero, Act.put, List.setIfInBounds_toArray, List.set_cons_zero, List.set_cons_succ]
        refine wpAnyH_done (by kernel_rfl) ?_ _
        dsimp only [calm]
        exact ⟨_, _, _, _, _, _, _, _, _, _, _, _, _, rfl, HFO, HFT, HFS⟩
      · skip
        simp only [List.getElem_toArray, List.getElem_cons_succ, List.getElem_cons_zero]
        go_simp
        have ba := below_one wl (.cells zt 24)
        have za := heap_alloc_last wl (.cells zt 24)
        obtain ⟨wa, hwa⟩ : ∃ wa, wl.alloc (.cells zt 24) = wa := ⟨_, rfl⟩
        rw [hwa] at ba za
        try rw [hwa]
        have HBA := Lib.hid ba
        have HZA : Hid (wl.heap.size < wa.heap.size ∧ wa.heap[wl.heap.size]? = some (.cells zt 24 (0, 0))) := Lib.hid ⟨(Array.getElem?_eq_some_iff.1 za).1, za⟩
        have HSa := Lib.hid (HSl.out.trans (ba.mono HSl.out.size))
        clear hwa ba za
        refine hK.out _ _ HSa.out (fun _ => ?_)
        clear hK
        try simp only [List.getElem_toArray, List.getElem_cons_succ, List.getElem_cons_zero, Act.put, List.setIfInBounds_toArray, List.set_cons_zero, List.set_cons_succ]
        refine wpAnyH_ready (rs := [2]) (by kernel_rfl) (by simp) ?_
        refine AllReadyH.cons rfl (fun K' hK => ?_) AllReadyH.nil
        simp only [List.getElem_toArray, List.getElem_cons_succ, List.getElem_cons_zero]
        go_simp
        refine (head_add 0 [blank] 1 0 0 1 1 [leafN 1] add_x right_t (by omega) rfl w.heap.size w.heap.size wl.heap.size ql wa ((HO1.out.below HSa.out).mono (fun x hx => hx.elim) (fun x hx => hx.1)) (HQ.out.below HBA.out) (HQ.out.far.mono fun x hx => by omega) (HT.out.below (HB1.out.trans (HSa.out.mono HB1.out.size))) (.inl HZA.out.1)).mono ?_
        rintro e' wn ⟨gg, bb, rfl, hg2, hon, hbn⟩
        have HG2 := Lib.hid hg2; have HON := Lib.hid hon; have HBN := Lib.hid hbn
        have HSn := Lib.hid (HSa.out.trans (hbn.mono HSa.out.size))
        clear hg2 hon hbn
        refine hK.out _ _ HSn.out (fun _ => ?_)
        clear hK
        try simp only [List.getElem_toArray, List.getElem_cons_succ, List.getElem_cons_zero, Act.put, List.setIfInBounds_toArray, List.set_cons_zero, List.set_cons_succ]
        refine wpAnyH_take (i := 3) (v := ?vh28) rfl (by kernel_rfl) (by kernel_rfl) (by kernel_rfl) (fun _ _ _ h => h) (Or.inl ⟨by rfl, ?yh28⟩) HSn.out ?rh28
        case yh28 => (intro w' hSw; clear hSw; go_simp; try with_reducible rfl)
        simp only [List.getElem_toArray, List.getElem_cons_succ, List.getElem_cons_zero, Act.put, List.setIfInBounds_toArray, List.set_cons_zero, List.set_cons_succ]
        refine wpAnyH_take (i := 4) (v := ?vh29) rfl (by kernel_rfl) (by kernel_rfl) (by kernel_rfl) (fun _ _ _ h => h) (Or.inl ⟨by rfl, ?yh29⟩) HSn.out ?rh29
        case yh29 => (intro w' hSw; clear hSw; go_simp; try with_reducible rfl)
        simp only [List.getElem_toArray, List.getElem_cons_succ, List.getElem_cons_zero, Act.put, List.setIfInBounds_toArray, List.set_cons_zero, List.set_cons_succ]
        refine wpAnyH_take (i := 5) (v := ?vh210) rfl (by kernel_rfl) (by kernel_rfl) (by kernel_rfl) (fun _ _ _ h => h) (Or.inl ⟨by rfl, ?yh210⟩) HSn.out ?rh210
        case yh210 => (intro w' hSw; clear hSw; go_simp; try with_reducible rfl)
        simp only [List.getElem_toArray, List.getElem_cons_succ, List.getElem_cons_zero, Act.put, List.setIfInBounds_toArray, List.set_cons_zero, List.set_cons_succ]
        refine wpAnyH_take (i := 6) (v := ?vh211) rfl (by kernel_rfl) (by kernel_rfl) (by kernel_rfl) (fun _ _ _ h => h) (Or.inl ⟨by rfl, ?yh211⟩) HSn.out ?rh211
        case yh211 => (intro w' hSw; clear hSw; go_simp; try with_reducible rfl)
        simp only [List.getElem_toArray, List.getElem_cons_succ, List.getElem_cons_zero, Act.put, List.setIfInBounds_toArray, List.set_cons_zero, List.set_cons_succ]
        refine wpAnyH_ready (rs := [8]) (by kernel_rfl) (by simp) ?_
        refine AllReadyH.cons rfl (fun K' hK => ?_) AllReadyH.nil
        simp only [List.getElem_toArray, List.getElem_cons_succ, List.getElem_cons_zero]
        rw [if_pos (by rfl)]
        have hzz : wn.heap[wl.heap.size]? = some (.cells zt 24 (0, 0)) := (HBN.out.block _ HZA.out.1).trans HZA.out.2
        have hle := HSn.out.size
        have hBle : W1.heap.size ≤ wl.heap.size := by have := HS.out.size; have := HSl.out.size; omega
        refine wp_store_row 24 (.tmp 2) (.tmp 16) rfl (wl.heap.size) #[.int .i64 0, .slice (some ⟨gg, 0, none⟩) 1 1] rfl rfl 24 zt hzz (tr_sized _ _ _ _) rfl (tr_all _ _ _ _) ?_
        have HFO : Hid (OwnN (fun x => x ≠ gg ∧ x ≠ wl.heap.size) (wn.setRow (wl.heap.size) #[.int .i64 0, .slice (some ⟨gg, 0, none⟩) 1 1]) bb gg 1 1 [leafN 1]) := Lib.hid ((HON.out.mono (fun x hx => ⟨hx.1, hx.2.1 HZA.out.1⟩) (fun x hx => hx.1)).setRow (by have := HG2.out; have := HZA.out.1; omega) (fun h => h.2 rfl) _)
        have HFT : Hid (TrB 0 (some ⟨gg, 0, none⟩) 1 1 (wn.setRow (wl.heap.size) #[.int .i64 0, .slice (some ⟨gg, 0, none⟩) 1 1]) (wl.heap.size)) := Lib.hid (setRow_heap wn (wl.heap.size) _ _ _ _ hzz)
        have HFS := Lib.hid (below_setRow HSn.out hBle #[.int .i64 0, .slice (some ⟨gg, 0, none⟩) 1 1])
        clear hzz hle hBle
        refine hK.out _ _ HFS.out (fun _ => ?_)
        clear hK
        try simp only [List.getElem_toArray, List.getElem_cons_succ, List.getElem_cons_zero, Act.put, List.setIfInBounds_toArray, List.set_cons_zero, List.set_cons_succ]
        refine wpAnyH_take (i := 9) (v := ?vh212) rfl (by kernel_rfl) (by kernel_rfl) (by kernel_rfl) (fun _ _ _ h => h) (Or.inl ⟨by rfl, ?yh212⟩) HFS.out ?rh212
        case yh212 => (intro w' hSw; clear hSw; go_simp; try with_reducible rfl)
        simp only [List.getElem_toArray, List.getElem_cons_succ, List.getElem_cons_zero, Act.put, List.setIfInBounds_toArray, List.set_cons_zero, List.set_cons_succ]
        refine wpAnyH_take (i := 10) (v := ?vh213) rfl (by kernel_rfl) (by kernel_rfl) (by kernel_rfl) (fun _ _ _ h => h) (Or.inl ⟨by rfl, ?yh213⟩) HFS.out ?rh213
        case yh213 => (intro w' hSw; clear hSw; go_simp; try with_reducible rfl)
        simp only [List.getElem_toArray, List.getElem_cons_succ, List.getElem_cons_zero, Act.put, List.setIfInBounds_toArray, List.set_cons_zero, List.set_cons_succ]
        refine wpAnyH_done (by kernel_rfl) ?_ _
        dsimp only [calm]
        exact ⟨_, _, _, _, _, _, _, _, _, _, _, _, _, rfl, HFO, HFT, HFS⟩
    · skip
      simp only [List.getElem_toArray, List.getElem_cons_succ, List.getElem_cons_zero]
      go_simp
      have ba := below_one wd (.cells zt 24)
      have za := heap_alloc_last wd (.cells zt 24)
      obtain ⟨wa, hwa⟩ : ∃ wa, wd.alloc (.cells zt 24) = wa := ⟨_, rfl⟩
      rw [hwa] at ba za
      try rw [hwa]
      have HBA := Lib.hid ba
      have HZA : Hid (wd.heap.size < wa.heap.size ∧ wa.heap[wd.heap.size]? = some (.cells zt 24 (0, 0))) := Lib.hid ⟨(Array.getElem?_eq_some_iff.1 za).1, za⟩
      have HSa := Lib.hid (HS.out.trans (ba.mono HS.out.size))
      clear hwa ba za
      refine hK.out _ _ HSa.out (fun _ => ?_)
      clear hK
      try simp only [List.getElem_toArray, List.getElem_cons_succ, List.getElem_cons_zero, Act.put, List.setIfInBounds_toArray, List.set_cons_zero, List.set_cons_succ]
      refine wpAnyH_ready (rs := [1]) (by kernel_rfl) (by simp) ?_
      refine AllReadyH.cons rfl (fun K' hK => ?_) AllReadyH.nil
      simp only [List.getElem_toArray, List.getElem_cons_succ, List.getElem_cons_zero]
      go_simp
      refine (leaf_any 1 (by omega) wa).mono ?_
      rintro e' wl ⟨ql, rfl, hq, hqf, hbl⟩
      have HQ := Lib.hid hq; have HQF := Lib.hid hqf; have HBL := Lib.hid hbl
      have HSl := Lib.hid (HSa.out.trans (hbl.mono HSa.out.size))
      have HZl := Lib.hid ((hbl.block _ HZA.out.1).trans HZA.out.2)
      clear hq hqf hbl
      refine hK.out _ _ HSl.out (fun _ => ?_)
      clear hK
      try simp only [List.getElem_toArray, List.getElem_cons_succ, List.getElem_cons_zero, Act.put, List.setIfInBounds_toArray, List.set_cons_zero, List.set_cons_succ]
      refine wpAnyH_ready (rs := [2]) (by kernel_rfl) (by simp) ?_
      refine AllReadyH.cons rfl (fun K' hK => ?_) AllReadyH.nil
      simp only [List.getElem_toArray, List.getElem_cons_succ, List.getElem_cons_zero]
      go_simp
      refine (head_add 0 [blank] 1 0 0 1 1 [leafN 1] add_x right_t (by omega) rfl w.heap.size w.heap.size wd.heap.size ql wl ((HO1.out.below HSl.out).mono (fun x hx => hx.elim) (fun x hx => hx.1)) (HQ.out) (HQF.out.mono fun x hx => by have := HZA.out.1; omega) (HT.out.below (HB1.out.trans (HSl.out.mono HB1.out.size))) (.inl (by have := HZA.out.1; have := HBL.out.size; omega))).mono ?_
      rintro e' wn ⟨gg, bb, rfl, hg2, hon, hbn⟩
      have HG2 := Lib.hid hg2; have HON := Lib.hid hon; have HBN := Lib.hid hbn
      have HSn := Lib.hid (HSl.out.trans (hbn.mono HSl.out.size))
      clear hg2 hon hbn
      refine hK.out _ _ HSn.out (fun _ => ?_)
      clear hK
      try simp only [List.getElem_toArray, List.getElem_cons_succ, List.getElem_cons_zero, Act.put, List.setIfInBounds_toArray, List.set_cons_zero, List.set_cons_succ]
      refine wpAnyH_take (i := 3) (v := ?vh214) rfl (by kernel_rfl) (by kernel_rfl) (by kernel_rfl) (fun _ _ _ h => h) (Or.inl ⟨by rfl, ?yh214⟩) HSn.out ?rh214
      case yh214 => (intro w' hSw; clear hSw; go_simp; try with_reducible rfl)
      simp only [List.getElem_toArray, List.getElem_cons_succ, List.getElem_cons_zero, Act.put, List.setIfInBounds_toArray, List.set_cons_zero, List.set_cons_succ]
      refine wpAnyH_take (i := 4) (v := ?vh215) rfl (by kernel_rfl) (by kernel_rfl) (by kernel_rfl) (fun _ _ _ h => h) (Or.inl ⟨by rfl, ?yh215⟩) HSn.out ?rh215
      case yh215 => (intro w' hSw; clear hSw; go_simp; try with_reducible rfl)
      simp only [List.getElem_toArray, List.getElem_cons_succ, List.getElem_cons_zero, Act.put, List.setIfInBounds_toArray, List.set_cons_zero, List.set_cons_succ]
      refine wpAnyH_take (i := 5) (v := ?vh216) rfl (by kernel_rfl) (by kernel_rfl) (by kernel_rfl) (fun _ _ _ h => h) (Or.inl ⟨by rfl, ?yh216⟩) HSn.out ?rh216
      case yh216 => (intro w' hSw; clear hSw; go_simp; try with_reducible rfl)
      simp only [List.getElem_toArray, List.getElem_cons_succ, List.getElem_cons_zero, Act.put, List.setIfInBounds_toArray, List.set_cons_zero, List.set_cons_succ]
      refine wpAnyH_take (i := 6) (v := ?vh217) rfl (by kernel_rfl) (by kernel_rfl) (by kernel_rfl) (fun _ _ _ h => h) (Or.inl ⟨by rfl, ?yh217⟩) HSn.out ?rh217
      case yh217 => (intro w' hSw; clear hSw; go_simp; try with_reducible rfl)
      simp only [List.getElem_toArray, List.getElem_cons_succ, List.getElem_cons_zero, Act.put, List.setIfInBounds_toArray, List.set_cons_zero, List.set_cons_succ]
      refine wpAnyH_ready (rs := [8]) (by kernel_rfl) (by simp) ?_
      refine AllReadyH.cons rfl (fun K' hK => ?_) AllReadyH.nil
      simp only [List.getElem_toArray, List.getElem_cons_succ, List.getElem_cons_zero]
      rw [if_pos (by rfl)]
      have hzz : wn.heap[wd.heap.size]? = some (.cells zt 24 (0, 0)) := (HBN.out.block _ (by have := HZA.out.1; have := HBL.out.size; omega)).trans HZl.out
      have hle := HSn.out.size
      have hBle : W1.heap.size ≤ wd.heap.size := by have := HS.out.size; have := HSl.out.size; omega
      refine wp_store_row 24 (.tmp 2) (.tmp 16) rfl (wd.heap.size) #[.int .i64 0, .slice (some ⟨gg, 0, none⟩) 1 1] rfl rfl 24 zt hzz (tr_sized _ _ _ _) rfl (tr_all _ _ _ _) ?_
      have HFO : Hid (OwnN (fun x => x ≠ gg ∧ x ≠ wd.heap.size) (wn.setRow (wd.heap.size) #[.int .i64 0, .slice (some ⟨gg, 0, none⟩) 1 1]) bb gg 1 1 [leafN 1]) := Lib.hid ((HON.out.mono (fun x hx => ⟨hx.1, hx.2.1 (by have := HZA.out.1; have := HBL.out.size; omega)⟩) (fun x hx => hx.1)).setRow (by have := HG2.out; have := HZA.out.1; have := HBL.out.size; omega) (fun h => h.2 rfl) _)
      have HFT : Hid (TrB 0 (some ⟨gg, 0, none⟩) 1 1 (wn.setRow (wd.heap.size) #[.int .i64 0, .slice (some ⟨gg, 0, none⟩) 1 1]) (wd.heap.size)) := Lib.hid (setRow_heap wn (wd.heap.size) _ _ _ _ hzz)
      have HFS := Lib.hid (below_setRow HSn.out hBle #[.int .i64 0, .slice (some ⟨gg, 0, none⟩) 1 1])
      clear hzz hle hBle
      refine hK.out _ _ HFS.out (fun _ => ?_)
      clear hK
      try simp only [List.getElem_toArray, List.getElem_cons_succ, List.getElem_cons_zero, Act.put, List.setIfInBounds_toArray, List.set_cons_zero, List.set_cons_succ]
      refine wpAnyH_take (i := 9) (v := ?vh218) rfl (by kernel_rfl) (by kernel_rfl) (by kernel_rfl) (fun _ _ _ h => h) (Or.inl ⟨by rfl, ?yh218⟩) HFS.out ?rh218
      case yh218 => (intro w' hSw; clear hSw; go_simp; try with_reducible rfl)
      simp only [List.getElem_toArray, List.getElem_cons_succ, List.getElem_cons_zero, Act.put, List.setIfInBounds_toArray, List.set_cons_zero, List.set_cons_succ]
      refine wpAnyH_take (i := 10) (v := ?vh219) rfl (by kernel_rfl) (by kernel_rfl) (by kernel_rfl) (fun _ _ _ h => h) (Or.inl ⟨by rfl, ?yh219⟩) HFS.out ?rh219
      case yh219 => (intro w' hSw; clear hSw; go_simp; try with_reducible rfl)
      simp only [List.getElem_toArray, List.getElem_cons_succ, List.getElem_cons_zero, Act.put, List.setIfInBounds_toArray, List.set_cons_zero, List.set_cons_succ]
      refine wpAnyH_done (by kernel_rfl) ?_ _
      dsimp only [calm]
      exact ⟨_, _, _, _, _, _, _, _, _, _, _, _, _, rfl, HFO, HFT, HFS⟩
  case rest2 =>
    rintro ex a9 W2 hnorm
    obtain ⟨rfl, b2, g2, bs2, v9, v10, v11, v12, v13, v14, v15, v16, v17, v18, rfl, HO2, HT2, HSW2⟩ := norm_of hnorm
    clear hnorm
    dsimp only [Exit.then]
    rename_i K hK
    refine hK _ _ ?_
    clear hK K
    have HBW := Lib.hid (HB1.out.trans (HSW2.out.mono HB1.out.size))
    have HO2n := Lib.hid HO2.out.near
    obtain ⟨t0, t1⟩ := HT2.out.cs
    gi_wp2_with fail
    refine wpIn_mono (Q := norm fun a W => ∃ b3 g3 bs3 v9 v10 v11 v12 v13 v14 v15 v16 v17 v18 v19 v20 v21 v22 v23 v24 v25, a = { tmps := #[.bool false, .pointer (some ⟨w.heap.size + 1, 0, none⟩), .pointer (some ⟨b2, 0, none⟩), .int .i64 0, .int .i64 0, .pointer (some ⟨b3, 0, none⟩), .int .i64 1, .int .i64 0, undef, v9, v10, v11, v12, v13, v14, v15, v16, v17, v18, v19, v20, v21, v22, v23, v24, v25, undef, undef, undef, undef, undef, undef, undef, undef, undef, undef, undef, undef, undef, undef, undef, undef, undef, undef, undef, undef, undef, undef, undef, undef, undef, undef, undef, undef, undef, undef, undef, undef, undef, undef, undef, undef, undef, undef, undef, undef, undef, undef, undef, undef, undef, undef, undef, undef], defers := [] } ∧ Hid (OwnN (fun x => x ≠ g3 ∧ x ≠ b3) W bs3 g3 3 3 yN) ∧ Hid (TrB 1 (some ⟨g3, 0, none⟩) 3 3 W b3) ∧ Hid (Below W2.heap.size W2 W)) ?cut3 ?rest3
    case cut3 =>
      refine region_drawn_in (plain_wide _) (by kernel_rfl) (by kernel_rfl) ?_
      have HS : Hid (Below W2.heap.size W2 W2.drew) := Lib.hid ((Below.refl _ _).drew)
      generalize W2.drew = wd at *
      clear t0 t1
      refine wpAny_of_held (S := fun W => Below W2.heap.size W2 W) _ _ _ _ ?_
      refine wpAnyH_take (i := 0) (v := ?vh31) rfl (by kernel_rfl) (by kernel_rfl) (by kernel_rfl) (fun _ _ _ h => h) (Or.inl ⟨by rfl, ?yh31⟩) HS.out ?rh31
      case yh31 => (intro w' hSw; obtain ⟨x0, x1⟩ := ((HT2).out.below hSw (HT2).out.lt).cs; clear hSw; go_simp; try with_reducible rfl)
      simp only [List.getElem_toArray, List.getElem_cons_succ, List.getElem_cons_zero, Act.put, List.setIfInBounds_toArray, List.set_cons_zero, List.set_cons_succ]
      refine wpAnyH_ready (rs := [1, 7]) (by kernel_rfl) (by simp) ?_
      refine AllReadyH.cons rfl (fun K' hK => ?_) (AllReadyH.cons rfl (fun K' hK => ?_) AllReadyH.nil)
      · skip
        simp only [List.getElem_toArray, List.getElem_cons_succ, List.getElem_cons_zero]
        go_simp
        refine (leaf_any 2 (by omega) wd).mono ?_
        rintro e' wl ⟨ql, rfl, hq, hqf, hbl⟩
        have HQ := Lib.hid hq; have HQF := Lib.hid hqf; have HBL := Lib.hid hbl
        have HSl := Lib.hid (HS.out.trans (hbl.mono HS.out.size))
        clear hq hqf hbl
        refine hK.out _ _ HSl.out (fun _ => ?_)
        clear hK
        try simp only [List.getElem_toArray, List.getElem_cons_succ, List.getElem_cons_zero, Act.put, List.setIfInBounds_toArray, List.set_cons_zero, List.set_cons_succ]
        refine wpAnyH_ready (rs := [2, 7]) (by kernel_rfl) (by simp) ?_
        refine AllReadyH.cons rfl (fun K' hK => ?_) (AllReadyH.cons rfl (fun K' hK => ?_) AllReadyH.nil)
        · skip
          simp only [List.getElem_toArray, List.getElem_cons_succ, List.getElem_cons_zero]
          go_simp
          refine (head_add 0 [leafN 1] 2 1 1 1 3 yN add_y right_x (by omega) rfl g2 bs2 wl.heap.size ql wl ((HO2n.out.below HSl.out).mono (fun x hx => ⟨hx.1.1, by have := hx.2; have := HS.out.size; have := HSl.out.size; omega⟩) (fun x hx => hx.1)) (HQ.out) (HQ.out.far.mono fun x hx => by omega) (HT.out.below (HBW.out.trans (HSl.out.mono HBW.out.size))) (.inr (Nat.le_refl _))).mono ?_
          rintro e' wn ⟨gg, bb, rfl, hg2, hon, hbn⟩
          have HG2 := Lib.hid hg2; have HON := Lib.hid hon; have HBN := Lib.hid hbn
          have HSn := Lib.hid (HSl.out.trans (hbn.mono HSl.out.size))
          clear hg2 hon hbn
          refine hK.out _ _ HSn.out (fun _ => ?_)
          clear hK
          try simp only [List.getElem_toArray, List.getElem_cons_succ, List.getElem_cons_zero, Act.put, List.setIfInBounds_toArray, List.set_cons_zero, List.set_cons_succ]
          refine wpAnyH_take (i := 3) (v := ?vh32) rfl (by kernel_rfl) (by kernel_rfl) (by kernel_rfl) (fun _ _ _ h => h) (Or.inl ⟨by rfl, ?yh32⟩) HSn.out ?rh32
          case yh32 => (intro w' hSw; clear hSw; go_simp; try with_reducible rfl)
          simp only [List.getElem_toArray, List.getElem_cons_succ, List.getElem_cons_zero, Act.put, List.setIfInBounds_toArray, List.set_cons_zero, List.set_cons_succ]
          refine wpAnyH_take (i := 4) (v := ?vh33) rfl (by kernel_rfl) (by kernel_rfl) (by kernel_rfl) (fun _ _ _ h => h) (Or.inl ⟨by rfl, ?yh33⟩) HSn.out ?rh33
          case yh33 => (intro w' hSw; clear hSw; go_simp; try with_reducible rfl)
          simp only [List.getElem_toArray, List.getElem_cons_succ, List.getElem_cons_zero, Act.put, List.setIfInBounds_toArray, List.set_cons_zero, List.set_cons_succ]
          refine wpAnyH_take (i := 5) (v := ?vh34) rfl (by kernel_rfl) (by kernel_rfl) (by kernel_rfl) (fun _ _ _ h => h) (Or.inl ⟨by rfl, ?yh34⟩) HSn.out ?rh34
          case yh34 => (intro w' hSw; clear hSw; go_simp; try with_reducible rfl)
          simp only [List.getElem_toArray, List.getElem_cons_succ, List.getElem_cons_zero, Act.put, List.setIfInBounds_toArray, List.set_cons_zero, List.set_cons_succ]
          refine wpAnyH_take (i := 6) (v := ?vh35) rfl (by kernel_rfl) (by kernel_rfl) (by kernel_rfl) (fun _ _ _ h => h) (Or.inl ⟨by rfl, ?yh35⟩) HSn.out ?rh35
          case yh35 => (intro w' hSw; clear hSw; go_simp; try with_reducible rfl)
          simp only [List.getElem_toArray, List.getElem_cons_succ, List.getElem_cons_zero, Act.put, List.setIfInBounds_toArray, List.set_cons_zero, List.set_cons_succ]
          refine wpAnyH_ready (rs := [7]) (by kernel_rfl) (by simp) ?_
          refine AllReadyH.cons rfl (fun K' hK => ?_) AllReadyH.nil
          simp only [List.getElem_toArray, List.getElem_cons_succ, List.getElem_cons_zero]
          go_simp
          have ba := below_one wn (.cells zt 24)
          have za := heap_alloc_last wn (.cells zt 24)
          obtain ⟨wa, hwa⟩ : ∃ wa, wn.alloc (.cells zt 24) = wa := ⟨_, rfl⟩
          rw [hwa] at ba za
          try rw [hwa]
          have HBA := Lib.hid ba
          have HZA : Hid (wn.heap.size < wa.heap.size ∧ wa.heap[wn.heap.size]? = some (.cells zt 24 (0, 0))) := Lib.hid ⟨(Array.getElem?_eq_some_iff.1 za).1, za⟩
          have HSa := Lib.hid (HSn.out.trans (ba.mono HSn.out.size))
          clear hwa ba za
          refine hK.out _ _ HSa.out (fun _ => ?_)
          clear hK
          try simp only [List.getElem_toArray, List.getElem_cons_succ, List.getElem_cons_zero, Act.put, List.setIfInBounds_toArray, List.set_cons_zero, List.set_cons_succ]
          refine wpAnyH_ready (rs := [8]) (by kernel_rfl) (by simp) ?_
          refine AllReadyH.cons rfl (fun K' hK => ?_) AllReadyH.nil
          simp only [List.getElem_toArray, List.getElem_cons_succ, List.getElem_cons_zero]
          rw [if_pos (by rfl)]
          have hzz : wa.heap[wn.heap.size]? = some (.cells zt 24 (0, 0)) := HZA.out.2
          have hle := HSa.out.size
          have hBle : W2.heap.size ≤ wn.heap.size := by have := HSn.out.size; omega
          refine wp_store_row 24 (.tmp 5) (.tmp 23) rfl (wn.heap.size) #[.int .i64 1, .slice (some ⟨gg, 0, none⟩) 3 3] rfl rfl 24 zt hzz (tr_sized _ _ _ _) rfl (tr_all _ _ _ _) ?_
          have HFO : Hid (OwnN (fun x => x ≠ gg ∧ x ≠ wn.heap.size) (wa.setRow (wn.heap.size) #[.int .i64 1, .slice (some ⟨gg, 0, none⟩) 3 3]) bb gg 3 3 yN) := Lib.hid (((HON.out.below HBA.out).mono (fun x hx => ⟨hx.1, by have := hx.2.2; omega⟩) (fun x hx => hx.1)).setRow (by have := HON.out.lt.2; omega) (fun h => h.2 rfl) _)
          have HFT : Hid (TrB 1 (some ⟨gg, 0, none⟩) 3 3 (wa.setRow (wn.heap.size) #[.int .i64 1, .slice (some ⟨gg, 0, none⟩) 3 3]) (wn.heap.size)) := Lib.hid (setRow_heap wa (wn.heap.size) _ _ _ _ hzz)
          have HFS := Lib.hid (below_setRow HSa.out hBle #[.int .i64 1, .slice (some ⟨gg, 0, none⟩) 3 3])
          clear hzz hle hBle
          refine hK.out _ _ HFS.out (fun _ => ?_)
          clear hK
          try simp only [List.getElem_toArray, List.getElem_cons_succ, List.getElem_cons_zero, Act.put, List.setIfInBounds_toArray, List.set_cons_zero, List.set_cons_succ]
          refine wpAnyH_take (i := 9) (v := ?vh36) rfl (by kernel_rfl) (by kernel_rfl) (by kernel_rfl) (fun _ _ _ h => h) (Or.inl ⟨by rfl, ?yh36⟩) HFS.out ?rh36
          case yh36 => (intro w' hSw; clear hSw; go_simp; try with_reducible rfl)
          simp only [List.getElem_toArray, List.getElem_cons_succ, List.getElem_cons_zero, Act.put, List.setIfInBounds_toArray, List.set_cons_zero, List.set_cons_succ]
          refine wpAnyH_take (i := 10) (v := ?vh37) rfl (by kernel_rfl) (by kernel_rfl) (by kernel_rfl) (fun _ _ _ h => h) (Or.inl ⟨by rfl, ?yh37⟩) HFS.out ?rh37
          case yh37 => (intro w' hSw; clear hSw; go_simp; try with_reducible rfl)
          simp only [List.getElem_toArray, List.getElem_cons_succ, List.getElem_cons_zero, Act.put, List.setIfInBounds_toArray, List.set_cons_zero, List.set_cons_succ]
          refine wpAnyH_done (by kernel_rfl) ?_ _
          dsimp only [calm]
          exact ⟨_, _, _, _, _, _, _, _, _, _, _, _, _, _, _, _, _, _, _, _, rfl, HFO, HFT, HFS⟩
        · skip
          simp only [List.getElem_toArray, List.getElem_cons_succ, List.getElem_cons_zero]
          go_simp
          have ba := below_one wl (.cells zt 24)
          have za := heap_alloc_last wl (.cells zt 24)
          obtain ⟨wa, hwa⟩ : ∃ wa, wl.alloc (.cells zt 24) = wa := ⟨_, rfl⟩
          rw [hwa] at ba za
          try rw [hwa]
          have HBA := Lib.hid ba
          have HZA : Hid (wl.heap.size < wa.heap.size ∧ wa.heap[wl.heap.size]? = some (.cells zt 24 (0, 0))) := Lib.hid ⟨(Array.getElem?_eq_some_iff.1 za).1, za⟩
          have HSa := Lib.hid (HSl.out.trans (ba.mono HSl.out.size))
          clear hwa ba za
          refine hK.out _ _ HSa.out (fun _ => ?_)
          clear hK
          try simp only [List.getElem_toArray, List.getElem_cons_succ, List.getElem_cons_zero, Act.put, List.setIfInBounds_toArray, List.set_cons_zero, List.set_cons_succ]
          refine wpAnyH_ready (rs := [2]) (by kernel_rfl) (by simp) ?_
          refine AllReadyH.cons rfl (fun K' hK => ?_) AllReadyH.nil
          simp only [List.getElem_toArray, List.getElem_cons_succ, List.getElem_cons_zero]
          go_simp
          refine (head_add 0 [leafN 1] 2 1 1 1 3 yN add_y right_x (by omega) rfl g2 bs2 wl.heap.size ql wa ((HO2n.out.below HSa.out).mono (fun x hx => ⟨hx.1.1, by have := hx.2; have := HS.out.size; have := HSl.out.size; omega⟩) (fun x hx => hx.1)) (HQ.out.below HBA.out) (HQ.out.far.mono fun x hx => by omega) (HT.out.below (HBW.out.trans (HSa.out.mono HBW.out.size))) (.inl HZA.out.1)).mono ?_
          rintro e' wn ⟨gg, bb, rfl, hg2, hon, hbn⟩
          have HG2 := Lib.hid hg2; have HON := Lib.hid hon; have HBN := Lib.hid hbn
          have HSn := Lib.hid (HSa.out.trans (hbn.mono HSa.out.size))
          clear hg2 hon hbn
          refine hK.out _ _ HSn.out (fun _ => ?_)
          clear hK
          try simp only [List.getElem_toArray, List.getElem_cons_succ, List.getElem_cons_zero, Act.put, List.setIfInBounds_toArray, List.set_cons_zero, List.set_cons_succ]
          refine wpAnyH_take (i := 3) (v := ?vh38) rfl (by kernel_rfl) (by kernel_rfl) (by kernel_rfl) (fun _ _ _ h => h) (Or.inl ⟨by rfl, ?yh38⟩) HSn.out ?rh38
          case yh38 => (intro w' hSw; clear hSw; go_simp; try with_reducible rfl)
          simp only [List.getElem_toArray, List.getElem_cons_succ, List.getElem_cons_zero, Act.put, List.setIfInBounds_toArray, List.set_cons_zero, List.set_cons_succ]
          refine wpAnyH_take (i := 4) (v := ?vh39) rfl (by kernel_rfl) (by kernel_rfl) (by kernel_rfl) (fun _ _ _ h => h) (Or.inl ⟨by rfl, ?yh39⟩) HSn.out ?rh39
          case yh39 => (intro w' hSw; clear hSw; go_simp; try with_reducible rfl)
          simp only [List.getElem_toArray, List.getElem_cons_succ, List.getElem_cons_zero, Act.put, List.setIfInBounds_toArray, List.set_cons_zero, List.set_cons_succ]
          refine wpAnyH_take (i := 5) (v := ?vh310) rfl (by kernel_rfl) (by kernel_rfl) (by kernel_rfl) (fun _ _ _ h => h) (Or.inl ⟨by rfl, ?yh310⟩) HSn.out ?rh310
          case yh310 => (intro w' hSw; clear hSw; go_simp; try with_reducible rfl)
          simp only [List.getElem_toArray, List.getElem_cons_succ, List.getElem_cons_zero, Act.put, List.setIfInBounds_toArray, List.set_cons_zero, List.set_cons_succ]
          refine wpAnyH_take (i := 6) (v := ?vh311) rfl (by kernel_rfl) (by kernel_rfl) (by kernel_rfl) (fun _ _ _ h => h) (Or.inl ⟨by rfl, ?yh311⟩) HSn.out ?rh311
          case yh311 => (intro w' hSw; clear hSw; go_simp; try with_reducible rfl)
          simp only [List.getElem_toArray, List.getElem_cons_succ, List.getElem_cons_zero, Act.put, List.setIfInBounds_toArray, List.set_cons_zero, List.set_cons_succ]
          refine wpAnyH_ready (rs := [8]) (by kernel_rfl) (by simp) ?_
          refine AllReadyH.cons rfl (fun K' hK => ?_) AllReadyH.nil
          simp only [List.getElem_toArray, List.getElem_cons_succ, List.getElem_cons_zero]
          rw [if_pos (by rfl)]
          have hzz : wn.heap[wl.heap.size]? = some (.cells zt 24 (0, 0)) := (HBN.out.block _ HZA.out.1).trans HZA.out.2
          have hle := HSn.out.size
          have hBle : W2.heap.size ≤ wl.heap.size := by have := HS.out.size; have := HSl.out.size; omega
          refine wp_store_row 24 (.tmp 5) (.tmp 23) rfl (wl.heap.size) #[.int .i64 1, .slice (some ⟨gg, 0, none⟩) 3 3] rfl rfl 24 zt hzz (tr_sized _ _ _ _) rfl (tr_all _ _ _ _) ?_
          have HFO : Hid (OwnN (fun x => x ≠ gg ∧ x ≠ wl.heap.size) (wn.setRow (wl.heap.size) #[.int .i64 1, .slice (some ⟨gg, 0, none⟩) 3 3]) bb gg 3 3 yN) := Lib.hid ((HON.out.mono (fun x hx => ⟨hx.1, hx.2.1 HZA.out.1⟩) (fun x hx => hx.1)).setRow (by have := HG2.out; have := HZA.out.1; omega) (fun h => h.2 rfl) _)
          have HFT : Hid (TrB 1 (some ⟨gg, 0, none⟩) 3 3 (wn.setRow (wl.heap.size) #[.int .i64 1, .slice (some ⟨gg, 0, none⟩) 3 3]) (wl.heap.size)) := Lib.hid (setRow_heap wn (wl.heap.size) _ _ _ _ hzz)
          have HFS := Lib.hid (below_setRow HSn.out hBle #[.int .i64 1, .slice (some ⟨gg, 0, none⟩) 3 3])
          clear hzz hle hBle
          refine hK.out _ _ HFS.out (fun _ => ?_)
          clear hK
          try simp only [List.getElem_toArray, List.getElem_cons_succ, List.getElem_cons_zero, Act.put, List.setIfInBounds_toArray, List.set_cons_zero, List.set_cons_succ]
          refine wpAnyH_take (i := 9) (v := ?vh312) rfl (by kernel_rfl) (by kernel_rfl) (by kernel_rfl) (fun _ _ _ h => h) (Or.inl ⟨by rfl, ?yh312⟩) HFS.out ?rh312
          case yh312 => (intro w' hSw; clear hSw; go_simp; try with_reducible rfl)
          simp only [List.getElem_toArray, List.getElem_cons_succ, List.getElem_cons_zero, Act.put, List.setIfInBounds_toArray, List.set_cons_zero, List.set_cons_succ]
          refine wpAnyH_take (i := 10) (v := ?vh313) rfl (by kernel_rfl) (by kernel_rfl) (by kernel_rfl) (fun _ _ _ h => h) (Or.inl ⟨by rfl, ?yh313⟩) HFS.out ?rh313
          case yh313 => (intro w' hSw; clear hSw; go_simp; try with_reducible rfl)
          simp only [List.getElem_toArray, List.getElem_cons_succ, List.getElem_cons_zero, Act.put, List.setIfInBounds_toArray, List.set_cons_zero, List.set_cons_succ]
          refine wpAnyH_done (by kernel_rfl) ?_ _
          dsimp only [calm]
          exact ⟨_, _, _, _, _, _, _, _, _, _, _, _, _, _, _, _, _, _, _, _, rfl, HFO, HFT, HFS⟩
      · skip
        simp only [List.getElem_toArray, List.getElem_cons_succ, List.getElem_cons_zero]
        go_simp
        have ba := below_one wd (.cells zt 24)
        have za := heap_alloc_last wd (.cells zt 24)
        obtain ⟨wa, hwa⟩ : ∃ wa, wd.alloc (.cells zt 24) = wa := ⟨_, rfl⟩
        rw [hwa] at ba za
        try rw [hwa]
        have HBA := Lib.hid ba
        have HZA : Hid (wd.heap.size < wa.heap.size ∧ wa.heap[wd.heap.size]? = some (.cells zt 24 (0, 0))) := Lib.hid ⟨(Array.getElem?_eq_some_iff.1 za).1, za⟩
        have HSa := Lib.hid (HS.out.trans (ba.mono HS.out.size))
        clear hwa ba za
        refine hK.out _ _ HSa.out (fun _ => ?_)
        clear hK
        try simp only [List.getElem_toArray, List.getElem_cons_succ, List.getElem_cons_zero, Act.put, List.setIfInBounds_toArray, List.set_cons_zero, List.set_cons_succ]
        refine wpAnyH_ready (rs := [1]) (by kernel_rfl) (by simp) ?_
        refine AllReadyH.cons rfl (fun K' hK => ?_) AllReadyH.nil
        simp only [List.getElem_toArray, List.getElem_cons_succ, List.getElem_cons_zero]
        go_simp
        refine (leaf_any 2 (by omega) wa).mono ?_
        rintro e' wl ⟨ql, rfl, hq, hqf, hbl⟩
        have HQ := Lib.hid hq; have HQF := Lib.hid hqf; have HBL := Lib.hid hbl
        have HSl := Lib.hid (HSa.out.trans (hbl.mono HSa.out.size))
        have HZl := Lib.hid ((hbl.block _ HZA.out.1).trans HZA.out.2)
        clear hq hqf hbl
        refine hK.out _ _ HSl.out (fun _ => ?_)
        clear hK
        try simp only [List.getElem_toArray, List.getElem_cons_succ, List.getElem_cons_zero, Act.put, List.setIfInBounds_toArray, List.set_cons_zero, List.set_cons_succ]
        refine wpAnyH_ready (rs := [2]) (by kernel_rfl) (by simp) ?_
        refine AllReadyH.cons rfl (fun K' hK => ?_) AllReadyH.nil
        simp only [List.getElem_toArray, List.getElem_cons_succ, List.getElem_cons_zero]
        go_simp
        refine (head_add 0 [leafN 1] 2 1 1 1 3 yN add_y right_x (by omega) rfl g2 bs2 wd.heap.size ql wl ((HO2n.out.below HSl.out).mono (fun x hx => ⟨hx.1.1, by have := hx.2; have := HS.out.size; have := HSl.out.size; omega⟩) (fun x hx => hx.1)) (HQ.out) (HQF.out.mono fun x hx => by have := HZA.out.1; omega) (HT.out.below (HBW.out.trans (HSl.out.mono HBW.out.size))) (.inl (by have := HZA.out.1; have := HBL.out.size; omega))).mono ?_
        rintro e' wn ⟨gg, bb, rfl, hg2, hon, hbn⟩
        have HG2 := Lib.hid hg2; have HON := Lib.hid hon; have HBN := Lib.hid hbn
        have HSn := Lib.hid (HSl.out.trans (hbn.mono HSl.out.size))
        clear hg2 hon hbn
        refine hK.out _ _ HSn.out (fun _ => ?_)
        clear hK
        try simp only [List.getElem_toArray, List.getElem_cons_succ, List.getElem_cons_zero, Act.put, List.setIfInBounds_toArray, List.set_cons_zero, List.set_cons_succ]
        refine wpAnyH_take (i := 3) (v := ?vh314) rfl (by kernel_rfl) (by kernel_rfl) (by kernel_rfl) (fun _ _ _ h => h) (Or.inl ⟨by rfl, ?yh314⟩) HSn.out ?rh314
        case yh314 => (intro w' hSw; clear hSw; go_simp; try with_reducible rfl)
        simp only [List.getElem_toArray, List.getElem_cons_succ, List.getElem_cons_zero, Act.put, List.setIfInBounds_toArray, List.set_cons_zero, List.set_cons_succ]
        refine wpAnyH_take (i := 4) (v := ?vh315) rfl (by kernel_rfl) (by kernel_rfl) (by kernel_rfl) (fun _ _ _ h => h) (Or.inl ⟨by rfl, ?yh315⟩) HSn.out ?rh315
        case yh315 => (intro w' hSw; clear hSw; go_simp; try with_reducible rfl)
        simp only [List.getElem_toArray, List.getElem_cons_succ, List.getElem_cons_zero, Act.put, List.setIfInBounds_toArray, List.set_cons_zero, List.set_cons_succ]
        refine wpAnyH_take (i := 5) (v := ?vh316) rfl (by kernel_rfl) (by kernel_rfl) (by kernel_rfl) (fun _ _ _ h => h) (Or.inl ⟨by rfl, ?yh316⟩) HSn.out ?rh316
        case yh316 => (intro w' hSw; clear hSw; go_simp; try with_reducible rfl)
        simp only [List.getElem_toArray, List.getElem_cons_succ, List.getElem_cons_zero, Act.put, List.setIfInBounds_toArray, List.set_cons_zero, List.set_cons_succ]
        refine wpAnyH_take (i := 6) (v := ?vh317) rfl (by kernel_rfl) (by kernel_rfl) (by kernel_rfl) (fun _ _ _ h => h) (Or.inl ⟨by rfl, ?yh317⟩) HSn.out ?rh317
        case yh317 => (intro w' hSw; clear hSw; go_simp; try with_reducible rfl)
        simp only [List.getElem_toArray, List.getElem_cons_succ, List.getElem_cons_zero, Act.put, List.setIfInBounds_toArray, List.set_cons_zero, List.set_cons_succ]
        refine wpAnyH_ready (rs := [8]) (by kernel_rfl) (by simp) ?_
        refine AllReadyH.cons rfl (fun K' hK => ?_) AllReadyH.nil
        simp only [List.getElem_toArray, List.getElem_cons_succ, List.getElem_cons_zero]
        rw [if_pos (by rfl)]
        have hzz : wn.heap[wd.heap.size]? = some (.cells zt 24 (0, 0)) := (HBN.out.block _ (by have := HZA.out.1; have := HBL.out.size; omega)).trans HZl.out
        have hle := HSn.out.size
        have hBle : W2.heap.size ≤ wd.heap.size := by have := HS.out.size; have := HSl.out.size; omega
        refine wp_store_row 24 (.tmp 5) (.tmp 23) rfl (wd.heap.size) #[.int .i64 1, .slice (some ⟨gg, 0, none⟩) 3 3] rfl rfl 24 zt hzz (tr_sized _ _ _ _) rfl (tr_all _ _ _ _) ?_
        have HFO : Hid (OwnN (fun x => x ≠ gg ∧ x ≠ wd.heap.size) (wn.setRow (wd.heap.size) #[.int .i64 1, .slice (some ⟨gg, 0, none⟩) 3 3]) bb gg 3 3 yN) := Lib.hid ((HON.out.mono (fun x hx => ⟨hx.1, hx.2.1 (by have := HZA.out.1; have := HBL.out.size; omega)⟩) (fun x hx => hx.1)).setRow (by have := HG2.out; have := HZA.out.1; have := HBL.out.size; omega) (fun h => h.2 rfl) _)
        have HFT : Hid (TrB 1 (some ⟨gg, 0, none⟩) 3 3 (wn.setRow (wd.heap.size) #[.int .i64 1, .slice (some ⟨gg, 0, none⟩) 3 3]) (wd.heap.size)) := Lib.hid (setRow_heap wn (wd.heap.size) _ _ _ _ hzz)
        have HFS := Lib.hid (below_setRow HSn.out hBle #[.int .i64 1, .slice (some ⟨gg, 0, none⟩) 3 3])
        clear hzz hle hBle
        refine hK.out _ _ HFS.out (fun _ => ?_)
        clear hK
        try simp only [List.getElem_toArray, List.getElem_cons_succ, List.getElem_cons_zero, Act.put, List.setIfInBounds_toArray, List.set_cons_zero, List.set_cons_succ]
        refine wpAnyH_take (i := 9) (v := ?vh318) rfl (by kernel_rfl) (by kernel_rfl) (by kernel_rfl) (fun _ _ _ h => h) (Or.inl ⟨by rfl, ?yh318⟩) HFS.out ?rh318
        case yh318 => (intro w' hSw; clear hSw; go_simp; try with_reducible rfl)
        simp only [List.getElem_toArray, List.getElem_cons_succ, List.getElem_cons_zero, Act.put, List.setIfInBounds_toArray, List.set_cons_zero, List.set_cons_succ]
        refine wpAnyH_take (i := 10) (v := ?vh319) rfl (by kernel_rfl) (by kernel_rfl) (by kernel_rfl) (fun _ _ _ h => h) (Or.inl ⟨by rfl, ?yh319⟩) HFS.out ?rh319
        case yh319 => (intro w' hSw; clear hSw; go_simp; try with_reducible rfl)
        simp only [List.getElem_toArray, List.getElem_cons_succ, List.getElem_cons_zero, Act.put, List.setIfInBounds_toArray, List.set_cons_zero, List.set_cons_succ]
        refine wpAnyH_done (by kernel_rfl) ?_ _
        dsimp only [calm]
        exact ⟨_, _, _, _, _, _, _, _, _, _, _, _, _, _, _, _, _, _, _, _, rfl, HFO, HFT, HFS⟩
    case rest3 =>
      rintro ex a9 W3 hnorm
      obtain ⟨rfl, b3, g3, bs3, v9, v10, v11, v12, v13, v14, v15, v16, v17, v18, v19, v20, v21, v22, v23, v24, v25, rfl, HO3, HT3, HSW3⟩ := norm_of hnorm
      clear hnorm
      dsimp only [Exit.then]
      rename_i K hK
      refine hK _ _ ?_
      clear hK K
      have HBX := Lib.hid (HBW.out.trans (HSW3.out.mono HBW.out.size))
      have HT13 : Hid (TrB 0 (some ⟨w.heap.size, 0, none⟩) 1 1 W3 (w.heap.size + 1)) := Lib.hid ((HT1.out.below HSW2.out HT1.out.lt).below HSW3.out (Nat.lt_of_lt_of_le HT1.out.lt HSW2.out.size))
      have HO13 := Lib.hid ((HO1.out.below HSW2.out).below HSW3.out)
      have s10 : Sp.Is 4607182418800017408 0 (some (1, 0)) := ⟨.inl Fl.fl1.symm, .inl (by decide), by decide, by decide⟩
      have CR : Hid (Calls Tryz.prog 24 #[.agg #[.int .i64 1, .slice (some ⟨g3, 0, none⟩) 3 3], .complex .f64 4607182418800017408 0] W3 (ToldI [0, 2] W3)) := Lib.hid (by
        have h := resolve_any (1 : Nat) (some ⟨g3, 0, none⟩) 3 3 yN _ _ _ W3 HO3.out.nodes.any (HT.out.below HBX.out).sp s10
        rw [res_y] at h
        exact h)
      obtain ⟨sm, hsm, hsl⟩ : ∃ sm, sumT (1 : Nat) yN (some (1, 0)) = sm ∧ sm.length = 32 := ⟨_, rfl, sum_y⟩
      have CS : Hid (∀ W, Below W3.heap.size W3 W → Calls Tryz.prog 25 #[.agg #[.int .i64 1, .slice (some ⟨g3, 0, none⟩) 3 3], .complex .f64 4607182418800017408 0] W (Wr.Told sm W)) := Lib.hid fun W hb => by
        have h := sum_any (1 : Nat) (some ⟨g3, 0, none⟩) 3 3 yN _ _ _ W (HO3.out.nodes.any.below hb) (HT.out.below (HBX.out.trans (hb.mono HBX.out.size))) s10
        rw [hsm] at h
        exact h
      have CL : Hid (∀ W, Below W3.heap.size W3 W → Calls Tryz.prog 26 #[.agg #[.int .i64 1, .slice (some ⟨g3, 0, none⟩) 3 3]] W (ToldI [0, 1] W)) := Lib.hid fun W hb => by
        have h := leaves_any (1 : Nat) (some ⟨g3, 0, none⟩) 3 3 yN W (HO3.out.nodes.any.below hb) (HT.out.below (HBX.out.trans (hb.mono HBX.out.size))).sp
        rw [leaves_y] at h
        exact h
      have CT : Hid (∀ W, Below W3.heap.size W3 W → Calls Tryz.prog 17 #[.agg #[.int .i64 0, .slice (some ⟨w.heap.size, 0, none⟩) 1 1]] W fun e w' => e = .returned (.bool true) ∧ Below W.heap.size W w') := Lib.hid fun W hb =>
        right_is (0 : Nat) (some ⟨w.heap.size, 0, none⟩) 1 1 [blank] true W (HO13.out.nodes.any.below hb) (HT.out.below (HBX.out.trans (hb.mono HBX.out.size))).sp (by simp; exact ⟨0, rfl, right_t⟩)
      have HSL := Lib.hid hsl
      clear hsm hsl s10 t0 t1
      obtain ⟨t0, t1⟩ := HT3.out.cs
      gi_wp2_with fail
      refine ⟨trivial, rfl, (callsIn_wide.2 CR.out).mono ?_⟩
      rintro e' W4 ⟨A4, n4, c4, rfl, hI4, hB4⟩
      obtain rfl : n4 = 2 := hI4.len.symm
      obtain ⟨ad4, rfl⟩ := hI4.some (by omega)
      have HI4 := Lib.hid hI4; have HB4 := Lib.hid hB4
      have HT14 := Lib.hid (HT13.out.below hB4 HT13.out.lt)
      have HT34 := Lib.hid (HT3.out.below hB4 HT3.out.lt)
      clear hI4 hB4 t0 t1
      obtain ⟨x0, x1⟩ := HT14.out.cs
      gi_wp2_with fail
      refine ⟨trivial, rfl, (callsIn_wide.2 (CT.out _ HB4.out)).mono ?_⟩
      rintro e' w5 ⟨rfl, hb5⟩
      have HB5 := Lib.hid (HB4.out.trans (hb5.mono HB4.out.size))
      obtain ⟨y0, y1⟩ := (HT34.out.below hb5 HT34.out.lt).cs
      have y4 := (HI4.out.below hb5).cell 1 (by omega)
      have y5 : (2 : Nat) = 2 := rfl
      have y44 : w5.cell? ⟨ad4.block, ad4.off + 1, none⟩ = some (.int .i64 2) := y4
      have y45 : w5.cell? (ad4.add 1) = some (.int .i64 2) := y4
      clear y4
      clear hb5 x0 x1
      gi_wp2_with fail
      refine ⟨trivial, rfl, (callsIn_wide.2 (CS.out _ HB5.out)).mono ?_⟩
      rintro e' w6 ⟨A6, n6, c6, rfl, hI6, hb6⟩
      obtain rfl : n6 = 32 := by have := HSL.out; have := hI6.len; omega
      have HB6 := Lib.hid (HB5.out.trans (hb6.mono HB5.out.size))
      obtain ⟨z0, z1⟩ := (HT3.out.below HB6.out HT3.out.lt).cs
      clear hb6 hI6 y0 y1 y44 y45
      gi_wp2_with fail
      refine ⟨trivial, rfl, (callsIn_wide.2 (CL.out _ HB6.out)).mono ?_⟩
      rintro e' w7 ⟨A7, n7, c7, rfl, hI7, hb7⟩
      obtain rfl : n7 = 2 := hI7.len.symm
      have HB7 := Lib.hid (HB6.out.trans (hb7.mono HB6.out.size))
      clear hb7 hI7 z0 z1
      gi_wp2_with fail
      refine bodyPost_ret (results_tmp rfl _ _ _) rfl ⟨rfl, HBX.out.trans (HB7.out.mono HBX.out.size)⟩
end Go.Proofs.YtakglldffpnlaaaGreatDoor.Rt
