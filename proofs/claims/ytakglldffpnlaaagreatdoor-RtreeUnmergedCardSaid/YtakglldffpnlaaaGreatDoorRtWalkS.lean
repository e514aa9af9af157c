/- Walks: Add, too many. Written by tools/mk_rtmany.py. -/
import Derived.Test.YtakglldffpnlaaaGreatDoorRtWalkR
namespace Go.Proofs.YtakglldffpnlaaaGreatDoor.Rt
set_option linter.all false
open Go.RowKit Iter
open Wr (Txt Any New)
attribute [local go_sem] Oper.semAt_some

set_option maxHeartbeats 8000000 in
set_option maxRecDepth 100000 in
theorem add_many (d : Nat) (A : Option Addr) (n c : Nat) (ns : List Nd) (q : NdQ) (nl : Nd) (w : World) (hN : Nodes Any Any w A n c ns) (hq : NdIs Any w q nl) (hT : Tabs w) (hr : Right ns d) (hl : LeafR nl) (hm : addD ns d = 7) :
    Calls Tryz.prog 9 #[.agg #[.int .i64 d, .slice A n c], .agg q.cs] w fun e w' => e = .returned (.tuple #[.agg zt, .int .i64 0, .int .i64 2]) ∧ Below w.heap.size w w' := by
  obtain ⟨W0, hW0, hI, hz⟩ := AdI.new d A n c q w
  have HI := Lib.hid hI
  have hN0 := hN.below hI.bl
  have hT0 := hT.below hI.bl
  have hd6 := hr.deep
  have hnn : n = 2 ^ (d + 1) - 1 := by rw [← hr.len, hN.len]
  obtain ⟨t0, t1⟩ := hI.tr.cs
  have C1 := Lib.hid (right_is d A n c ns true W0 hN0 hT0.sp (by simp; exact ⟨d, rfl, hr⟩))
  have hlf : leafF q.k q.n1 q.n2 q.n3 q.n4 q.n5 = true := (leafR_iff hq).2 hl
  have C2 := Lib.hid fun w => leaf_is q.k q.A1 q.n1 q.c1 q.A2 q.n2 q.c2 q.A3 q.n3 q.c3 q.A4 q.n4 q.c4 q.A5 q.n5 q.c5 true w hlf
  have HN := Lib.hid hN; have HQ := Lib.hid hq; have HR := Lib.hid hr
  have HF : Hid (∀ W, AdI d A n c q w W → Calls Tryz.prog 30 #[.agg #[.int .i64 d, .slice A n c]] W fun e w' => e = .returned (.int .i64 (firstB ns d : Nat)) ∧ Below W.heap.size W w') := Lib.hid fun W hb => firstBlank_is d A n c ns W (by omega) hnn (hN.below hb.bl)
  obtain ⟨k, A1, n1, c1, A2, n2, c2, A3, n3, c3, A4, n4, c4, A5, n5, c5⟩ := q
  dsimp only [NdQ.cs] at *
  clear hN0 hT0 hr hI hN hT hq hl hlf
  obtain ⟨f, hf⟩ : ∃ f, firstB ns d = f := ⟨_, rfl⟩
  obtain ⟨e, he⟩ : ∃ e, addD ns d = e := ⟨_, rfl⟩
  rw [hf] at HF
  rw [he] at hm
  have HE : Hid (firstB ns d = f ∧ addD ns d = e ∧ n = 2 ^ (d + 1) - 1 ∧ d ≤ 6 ∧ e = 7) := Lib.hid ⟨hf, he, hnn, hd6, hm⟩
  clear hf he hnn hd6 hm
  refine callsIn_wide.1 (callsIn_of_wp_marks (n := 0) Tryz.func9 rfl trivial ?_ rfl)
  simp only [Tryz.ntmps9, List.size_toArray, List.length_cons, List.length_nil, Nat.reduceAdd, Nat.reduceSub, Array.replicate_succ, Array.replicate_zero, List.push_toArray, List.append_toArray, List.nil_append, List.cons_append]
  gi_wp2_with fail
  refine ⟨trivial, rfl, ?_⟩
  refine (callsIn_wide.2 C1.out).mono ?_
  rintro e' w2 ⟨rfl, hb2⟩
  have HI2 := Lib.hid (HI.out.below hb2)
  have HB2 := Lib.hid hb2
  obtain ⟨u0, u1, u2, u3, u4, u5⟩ := HI2.out.lf.cs
  clear hb2 t0 t1
  gi_wp2_with fail
  refine ⟨trivial, rfl, ?_⟩
  refine (callsIn_wide.2 (C2.out _)).mono ?_
  rintro e' w3 ⟨rfl, hb3⟩
  have HI3 := Lib.hid (HI2.out.below hb3)
  have HB3 := Lib.hid (HB2.out.trans (hb3.mono HB2.out.size))
  obtain ⟨t0, t1⟩ := HI3.out.tr.cs
  clear hb3 u0 u1 u2 u3 u4 u5
  gi_wp2_with fail
  refine wpIn_mono (Q := norm fun a W => ∃ b7, a = { tmps := #[.agg #[.int .i64 d, .slice A n c], .agg (ndc k A1 n1 c1 A2 n2 c2 A3 n3 c3 A4 n4 c4 A5 n5 c5), .pointer (some ⟨w.heap.size, 0, none⟩), .pointer (some ⟨w.heap.size + 1, 0, none⟩), .pointer (some ⟨w.heap.size + 1 + 1, 0, none⟩), .int .i64 0, .int .i64 0, .pointer (some ⟨b7, 0, none⟩), .int .i64 d, undef, undef, .agg #[.int .i64 d, .slice A n c], .bool true, .bool false, undef, .agg (ndc k A1 n1 c1 A2 n2 c2 A3 n3 c3 A4 n4 c4 A5 n5 c5), .bool true, .bool false, undef, .agg #[.int .i64 d, .slice A n c], .int .i64 f, .pointer (some ⟨w.heap.size, 0, none⟩), .int .i64 d, undef, undef, undef, undef, undef, undef, undef, undef, undef, undef, undef, undef, undef, undef, undef, undef, undef, undef, undef, undef, undef, undef, undef, undef, undef, undef, undef, undef, undef, undef, undef, undef, undef, undef, undef, undef, undef, undef], defers := [] } ∧ Hid (AdI d A n c { k := k, A1 := A1, n1 := n1, c1 := c1, A2 := A2, n2 := n2, c2 := c2, A3 := A3, n3 := n3, c3 := c3, A4 := A4, n4 := n4, c4 := c4, A5 := A5, n5 := n5, c5 := c5 } w W) ∧ Hid (w.heap.size + 1 + 1 < b7 ∧ W.rowIs b7 3 1 (fun _ => .int .i64 f))) ?cut ?rest
  case cut =>
    refine region_drawn_in (plain_wide _) (by kernel_rfl) (by kernel_rfl) ?_
    have HS : Hid (AdI d A n c { k := k, A1 := A1, n1 := n1, c1 := c1, A2 := A2, n2 := n2, c2 := c2, A3 := A3, n3 := n3, c3 := c3, A4 := A4, n4 := n4, c4 := c4, A5 := A5, n5 := n5, c5 := c5 } w w3.drew) := Lib.hid (HI3.out.below ((Below.refl _ _).drew))
    generalize w3.drew = wd at *
    clear t0 t1 HI3 HB3
    refine wpAny_of_held (S := fun W => AdI d A n c { k := k, A1 := A1, n1 := n1, c1 := c1, A2 := A2, n2 := n2, c2 := c2, A3 := A3, n3 := n3, c3 := c3, A4 := A4, n4 := n4, c4 := c4, A5 := A5, n5 := n5, c5 := c5 } w W) _ _ _ _ ?_
    refine wpAnyH_take (i := 0) (v := ?vt1) rfl (by kernel_rfl) (by kernel_rfl) (by kernel_rfl) (fun _ _ _ h => h) (Or.inl ⟨by rfl, ?yt1⟩) HS.out ?rt1
    case yt1 => (intro w' hSw; obtain ⟨t0, t1⟩ := hSw.tr.cs; clear hSw; go_simp; try with_reducible rfl)
    simp only [List.getElem_toArray, List.getElem_cons_succ, List.getElem_cons_zero, Act.put, List.setIfInBounds_toArray, List.set_cons_zero, List.set_cons_succ]
    refine wpAnyH_take (i := 2) (v := ?vt2) rfl (by kernel_rfl) (by kernel_rfl) (by kernel_rfl) (fun _ _ _ h => h) (Or.inl ⟨by rfl, ?yt2⟩) HS.out ?rt2
    case yt2 => (intro w' hSw; clear hSw; go_simp; try with_reducible rfl)
    simp only [List.getElem_toArray, List.getElem_cons_succ, List.getElem_cons_zero, Act.put, List.setIfInBounds_toArray, List.set_cons_zero, List.set_cons_succ]
    refine wpAnyH_take (i := 3) (v := ?vt3) rfl (by kernel_rfl) (by kernel_rfl) (by kernel_rfl) (fun _ _ _ h => h) (Or.inl ⟨by rfl, ?yt3⟩) HS.out ?rt3
    case yt3 => (intro w' hSw; obtain ⟨t0, t1⟩ := hSw.tr.cs; clear hSw; go_simp; try with_reducible rfl)
    simp only [List.getElem_toArray, List.getElem_cons_succ, List.getElem_cons_zero, Act.put, List.setIfInBounds_toArray, List.set_cons_zero, List.set_cons_succ]
    refine wpAnyH_ready (rs := [1, 4]) (by kernel_rfl) (by simp) ?_
    refine AllReadyH.cons rfl (fun K' hK => ?_) (AllReadyH.cons rfl (fun K' hK => ?_) AllReadyH.nil)
    · skip
      simp only [List.getElem_toArray, List.getElem_cons_succ, List.getElem_cons_zero]
      go_simp
      refine (HF.out _ HS.out).mono ?_
      rintro e' w4 ⟨rfl, hb4⟩
      have HS1 := Lib.hid (HS.out.below hb4)
      refine hK.out _ _ HS1.out (fun _ => ?_)
      clear hK
      try simp only [List.getElem_toArray, List.getElem_cons_succ, List.getElem_cons_zero, Act.put, List.setIfInBounds_toArray, List.set_cons_zero, List.set_cons_succ]
      refine wpAnyH_ready (rs := [4]) (by kernel_rfl) (by simp) ?_
      refine AllReadyH.cons rfl (fun K' hK => ?_) AllReadyH.nil
      simp only [List.getElem_toArray, List.getElem_cons_succ, List.getElem_cons_zero]
      go_simp
      have r7 := rowIs_new1 w4 (.int .i64 0) 3
      have b7 := below_one w4 (.cells #[.int .i64 0] 3)
      obtain ⟨w5, hw5⟩ : ∃ w5, w4.alloc (.cells #[.int .i64 0] 3) = w5 := ⟨_, rfl⟩
      rw [hw5] at r7 b7
      rw [hw5]
      have hb77 : w.heap.size + 1 + 1 < w4.heap.size := by have := (Array.getElem?_eq_some_iff.1 HS1.out.out).1; omega
      have HR7 := Lib.hid r7
      have HS2 := Lib.hid (HS1.out.below b7)
      clear hw5 r7 b7
      refine hK.out _ _ HS2.out (fun _ => ?_)
      clear hK
      try simp only [List.getElem_toArray, List.getElem_cons_succ, List.getElem_cons_zero, Act.put, List.setIfInBounds_toArray, List.set_cons_zero, List.set_cons_succ]
      refine wpAnyH_ready (rs := [5]) (by kernel_rfl) (by simp) ?_
      refine AllReadyH.cons rfl (fun K' hK => ?_) AllReadyH.nil
      simp only [List.getElem_toArray, List.getElem_cons_succ, List.getElem_cons_zero]
      have c7 := HR7.out.cell (i := 0) (by omega)
      have f7 := HR7.out.frozen 0
      go_simp
      have HRB : Hid ((w5.setCell ⟨w4.heap.size, 0, none⟩ (.int .i64 f)).rowIs w4.heap.size 3 1 (fun _ => .int .i64 f)) := Lib.hid ((HR7.out.set 0 _).congr fun i hi => by
        obtain rfl : i = 0 := (by omega)
        rfl)
      have HS3 : Hid (AdI d A n c { k := k, A1 := A1, n1 := n1, c1 := c1, A2 := A2, n2 := n2, c2 := c2, A3 := A3, n3 := n3, c3 := c3, A4 := A4, n4 := n4, c4 := c4, A5 := A5, n5 := n5, c5 := c5 } w (w5.setCell ⟨w4.heap.size, 0, none⟩ (.int .i64 f))) := Lib.hid (HS2.out.setCell (by omega) _)
      refine hK.out _ _ HS3.out (fun _ => ?_)
      clear hK
      try simp only [List.getElem_toArray, List.getElem_cons_succ, List.getElem_cons_zero, Act.put, List.setIfInBounds_toArray, List.set_cons_zero, List.set_cons_succ]
      refine wpAnyH_take (i := 6) (v := ?vt4) rfl (by kernel_rfl) (by kernel_rfl) (by kernel_rfl) (fun _ _ _ h => h) (Or.inl ⟨by rfl, ?yt4⟩) HS3.out ?rt4
      case yt4 => (intro w' hSw; clear hSw; go_simp; try with_reducible rfl)
      simp only [List.getElem_toArray, List.getElem_cons_succ, List.getElem_cons_zero, Act.put, List.setIfInBounds_toArray, List.set_cons_zero, List.set_cons_succ]
      refine wpAnyH_done (by kernel_rfl) ?_ _
      exact ⟨w4.heap.size, rfl, HS3, Lib.hid ⟨by omega, HRB.out⟩⟩
    · skip
      simp only [List.getElem_toArray, List.getElem_cons_succ, List.getElem_cons_zero]
      go_simp
      have r7 := rowIs_new1 wd (.int .i64 0) 3
      have b7 := below_one wd (.cells #[.int .i64 0] 3)
      obtain ⟨w5, hw5⟩ : ∃ w5, wd.alloc (.cells #[.int .i64 0] 3) = w5 := ⟨_, rfl⟩
      rw [hw5] at r7 b7
      rw [hw5]
      have hb77 : w.heap.size + 1 + 1 < wd.heap.size := by have := (Array.getElem?_eq_some_iff.1 HS.out.out).1; omega
      have HR7 := Lib.hid r7
      have HS2 := Lib.hid (HS.out.below b7)
      clear hw5 r7 b7
      refine hK.out _ _ HS2.out (fun _ => ?_)
      clear hK
      try simp only [List.getElem_toArray, List.getElem_cons_succ, List.getElem_cons_zero, Act.put, List.setIfInBounds_toArray, List.set_cons_zero, List.set_cons_succ]
      refine wpAnyH_ready (rs := [1]) (by kernel_rfl) (by simp) ?_
      refine AllReadyH.cons rfl (fun K' hK => ?_) AllReadyH.nil
      simp only [List.getElem_toArray, List.getElem_cons_succ, List.getElem_cons_zero]
      go_simp
      refine (HF.out _ HS2.out).mono ?_
      rintro e' w4 ⟨rfl, hb4⟩
      have HS3 := Lib.hid (HS2.out.below hb4)
      have HR8 := Lib.hid (HR7.out.of_block (hb4.block _ HR7.out.lt))
      clear hb4
      refine hK.out _ _ HS3.out (fun _ => ?_)
      clear hK
      try simp only [List.getElem_toArray, List.getElem_cons_succ, List.getElem_cons_zero, Act.put, List.setIfInBounds_toArray, List.set_cons_zero, List.set_cons_succ]
      refine wpAnyH_ready (rs := [5]) (by kernel_rfl) (by simp) ?_
      refine AllReadyH.cons rfl (fun K' hK => ?_) AllReadyH.nil
      simp only [List.getElem_toArray, List.getElem_cons_succ, List.getElem_cons_zero]
      have c7 := HR8.out.cell (i := 0) (by omega)
      have f7 := HR8.out.frozen 0
      go_simp
      have HRB : Hid ((w4.setCell ⟨wd.heap.size, 0, none⟩ (.int .i64 f)).rowIs wd.heap.size 3 1 (fun _ => .int .i64 f)) := Lib.hid ((HR8.out.set 0 _).congr fun i hi => by
        obtain rfl : i = 0 := (by omega)
        rfl)
      have HS4 : Hid (AdI d A n c { k := k, A1 := A1, n1 := n1, c1 := c1, A2 := A2, n2 := n2, c2 := c2, A3 := A3, n3 := n3, c3 := c3, A4 := A4, n4 := n4, c4 := c4, A5 := A5, n5 := n5, c5 := c5 } w (w4.setCell ⟨wd.heap.size, 0, none⟩ (.int .i64 f))) := Lib.hid (HS3.out.setCell (by omega) _)
      refine hK.out _ _ HS4.out (fun _ => ?_)
      clear hK
      try simp only [List.getElem_toArray, List.getElem_cons_succ, List.getElem_cons_zero, Act.put, List.setIfInBounds_toArray, List.set_cons_zero, List.set_cons_succ]
      refine wpAnyH_take (i := 6) (v := ?vt5) rfl (by kernel_rfl) (by kernel_rfl) (by kernel_rfl) (fun _ _ _ h => h) (Or.inl ⟨by rfl, ?yt5⟩) HS4.out ?rt5
      case yt5 => (intro w' hSw; clear hSw; go_simp; try with_reducible rfl)
      simp only [List.getElem_toArray, List.getElem_cons_succ, List.getElem_cons_zero, Act.put, List.setIfInBounds_toArray, List.set_cons_zero, List.set_cons_succ]
      refine wpAnyH_done (by kernel_rfl) ?_ _
      exact ⟨wd.heap.size, rfl, HS4, Lib.hid ⟨by omega, HRB.out⟩⟩
  case rest =>
    rintro ex a9 W hnorm
    obtain ⟨rfl, b7, rfl, HA, HRW⟩ := norm_of hnorm
    clear hnorm
    clear t0 t1 HI3 HB3
    dsimp only [Exit.then]
    rename_i K hK
    refine hK _ _ ?_
    clear hK K
    refine wpIn_seq ?_
    obtain ⟨m, hm⟩ : ∃ m, 2 ^ d = m := ⟨_, rfl⟩
    have HL : Hid (∀ W, Calls Tryz.prog 31 #[.int .i64 (d : Int)] W fun e w' => e = .returned (.int .i64 (m : Int)) ∧ W = w') := Lib.hid fun W => by rw [← hm]; exact leaves_is d W (by have := HE.out; omega)
    have HM : Hid (d ≤ 6 ∧ f ≤ m ∧ m ≤ 64 ∧ (f = m → e = d + 1) ∧ (f ≠ m → e = d)) := Lib.hid (by
      obtain ⟨h1, h2, h3, h4, h5⟩ := HE.out
      have h6 := (firstB_is ns d).1
      have h7 : 2 ^ d ≤ 2 ^ 6 := Nat.pow_le_pow_right (by decide) h4
      unfold addD at h2
      rw [h1, hm] at h6 h2
      rw [hm] at h7
      refine ⟨h4, h6, h7, fun h => ?_, fun h => ?_⟩
      · rw [if_pos h] at h2; exact h2.symm
      · rw [if_neg h] at h2; exact h2.symm)
    clear hm
    refine wpIn_mono (Q := norm fun a W => ∃ v26 v27 v28, a = { tmps := #[.agg #[.int .i64 d, .slice A n c], .agg (ndc k A1 n1 c1 A2 n2 c2 A3 n3 c3 A4 n4 c4 A5 n5 c5), .pointer (some ⟨w.heap.size, 0, none⟩), .pointer (some ⟨w.heap.size + 1, 0, none⟩), .pointer (some ⟨w.heap.size + 1 + 1, 0, none⟩), .int .i64 0, .int .i64 0, .pointer (some ⟨b7, 0, none⟩), .int .i64 e, undef, undef, .agg #[.int .i64 d, .slice A n c], .bool true, .bool false, undef, .agg (ndc k A1 n1 c1 A2 n2 c2 A3 n3 c3 A4 n4 c4 A5 n5 c5), .bool true, .bool false, undef, .agg #[.int .i64 d, .slice A n c], .int .i64 f, .pointer (some ⟨w.heap.size, 0, none⟩), .int .i64 d, .int .i64 f, .int .i64 d, .int .i64 m, v26, v27, v28, undef, undef, undef, undef, undef, undef, undef, undef, undef, undef, undef, undef, undef, undef, undef, undef, undef, undef, undef, undef, undef, undef, undef, undef, undef, undef, undef, undef, undef, undef, undef, undef], defers := [] } ∧ Hid (AdI d A n c { k := k, A1 := A1, n1 := n1, c1 := c1, A2 := A2, n2 := n2, c2 := c2, A3 := A3, n3 := n3, c3 := c3, A4 := A4, n4 := n4, c4 := c4, A5 := A5, n5 := n5, c5 := c5 } w W) ∧ Hid (w.heap.size + 1 + 1 < b7 ∧ W.rowIs b7 3 1 (fun _ => .int .i64 f))) ?cut6 ?rest6
    case cut6 =>
      have HA' : Hid (AdI d A n c { k := k, A1 := A1, n1 := n1, c1 := c1, A2 := A2, n2 := n2, c2 := c2, A3 := A3, n3 := n3, c3 := c3, A4 := A4, n4 := n4, c4 := c4, A5 := A5, n5 := n5, c5 := c5 } w W.drew) := Lib.hid (HA.out.below ((Below.refl _ _).drew))
      have HRW' : Hid (w.heap.size + 1 + 1 < b7 ∧ W.drew.rowIs b7 3 1 (fun _ => .int .i64 f)) := HRW
      by_cases y : f = m
      · subst y
        have hei : (d : Int) + 1 = (e : Int) := by have := HM.out.2.2.2.1 rfl; omega
        have c7 := HRW.out.2.cell (i := 0) (by omega)
        have hd6 := HM.out.1
        gi_wp2_with fail
        gi_region_with (refine ⟨trivial, rfl, (callsIn_wide.2 (HL.out _)).mono ?_⟩; rintro e' w' ⟨rfl, rfl⟩)
        all_goals gi_wp2
        all_goals exact ⟨⟨.bool true, .int .i64 d, .int .i64 e, rfl⟩, HA', HRW'⟩
      · have yy : ¬ (f : Int) = (m : Int) := fun h => y (by omega)
        have he1 := HM.out.2.2.2.2 y
        subst he1
        have c7 := HRW.out.2.cell (i := 0) (by omega)
        gi_wp2_with fail
        gi_region_with (refine ⟨trivial, rfl, (callsIn_wide.2 (HL.out _)).mono ?_⟩; rintro e' w' ⟨rfl, rfl⟩)
        all_goals gi_wp2
        all_goals exact ⟨⟨_, _, _, rfl⟩, HA', HRW'⟩
    case rest6 =>
      rintro ex a9 W6 hnorm
      obtain ⟨rfl, v26, v27, v28, rfl, HA6, HR6⟩ := norm_of hnorm
      clear hnorm
      clear HA HRW
      dsimp only [Exit.then]
      have ye : (6 : Int) < (e : Int) := by have := HE.out; omega
      gi_wp2_with (refine wpListIn_store_whole (plain_wide _) rfl 24 (.tmp 4) (.tmp 31) rfl (w.heap.size + 1 + 1) zt rfl rfl 24 zt HA6.out.out (tr_sized _ _ _ _) rfl (tr_all _ _ _ _) ?_)
      exact add_end 2 HA6.out.out HA6.out.bl
end Go.Proofs.YtakglldffpnlaaaGreatDoor.Rt
