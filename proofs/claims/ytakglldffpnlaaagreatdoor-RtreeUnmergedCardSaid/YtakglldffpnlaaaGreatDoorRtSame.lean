/- Walks: the document's SameInts, SameNode, Same. Written by tools/mk_rtsame.py. -/
import Derived.Test.YtakglldffpnlaaaGreatDoorRtGreat
import Derived.Test.YtakglldffpnlaaaGreatDoorRtRefL
namespace Go.Proofs.YtakglldffpnlaaaGreatDoor.Rt
set_option linter.all false
open Go.RowKit
open Wr (Txt Any New)

theorem ints_ext {xs ys : List Int} (hl : xs.length = ys.length) (h : ∀ j, j < xs.length → gi xs j = gi ys j) : xs = ys := by
  apply List.ext_getElem hl
  intro i h1 h2
  have := h i h1
  unfold gi at this
  rw [List.getD_eq_getElem?_getD, List.getD_eq_getElem?_getD, List.getElem?_eq_getElem h1, List.getElem?_eq_getElem h2] at this
  exact this
set_option maxHeartbeats 8000000 in
set_option maxRecDepth 100000 in
theorem sameNode_is (qa qb : NdQ) (a b : Nd) (r : Bool) (w : World) (ha : NdIs Any w qa a) (hb : NdIs Any w qb b) (hr : r = true ↔ a = b) :
    Calls Tryz.prog 43 #[.agg qa.cs, .agg qb.cs] w fun e w' => e = .returned (.bool r) ∧ Below w.heap.size w w' := by
  obtain ⟨W2, hW2, g1, g2, hB2⟩ := two_new w qa.cs qb 28
  have hs2 : w.heap.size + 1 < W2.heap.size := (Array.getElem?_eq_some_iff.1 g2).1
  have HR := Lib.hid hr
  have HXA := Lib.hid (ha.kept hB2.size fun x _ hx => hB2.block x hx); have HXB := Lib.hid (hb.kept hB2.size fun x _ hx => hB2.block x hx)
  obtain ⟨k1, A1, n1, c1, A2, n2, c2, A3, n3, c3, A4, n4, c4, A5, n5, c5⟩ := qa
  obtain ⟨k2, B1, m1, e1, B2', m2, e2, B3, m3, e3, B4, m4, e4, B5, m5, e5⟩ := qb
  have G1 : Hid (NdB k1 A1 n1 c1 A2 n2 c2 A3 n3 c3 A4 n4 c4 A5 n5 c5 W2 w.heap.size) := Lib.hid g1
  have G2 : Hid (NdB k2 B1 m1 e1 B2' m2 e2 B3 m3 e3 B4 m4 e4 B5 m5 e5 W2 (w.heap.size + 1)) := Lib.hid g2
  have B2 := Lib.hid hB2
  clear ha hb hr g1 g2 hB2
  dsimp only [NdQ.cs] at *
  obtain ⟨s0, s1, s2, s3, s4, s5⟩ := G1.out.cs
  obtain ⟨t0, t1, t2, t3, t4, t5⟩ := G2.out.cs
  obtain ⟨ka, ea, va, na, oa, ua⟩ := a
  obtain ⟨kb, eb, vb, nb, ob, ub⟩ := b
  obtain rfl : k1 = ka := HXA.out.k
  obtain rfl : k2 = kb := HXB.out.k
  have ca1 := HXA.out.ek.conv; have ca2 := HXA.out.vk.conv; have ca3 := HXA.out.nm.conv; have ca4 := HXA.out.ab.conv
  have cb1 := HXB.out.ek.conv; have cb2 := HXB.out.vk.conv; have cb3 := HXB.out.nm.conv; have cb4 := HXB.out.ab.conv
  dsimp only at ca1 ca2 ca3 ca4 cb1 cb2 cb3 cb4
  have x1 := Wr.txt_beq HXA.out.ek.lt HXB.out.ek.lt; have x2 := Wr.txt_beq HXA.out.vk.lt HXB.out.vk.lt; have x3 := Wr.txt_beq HXA.out.nm.lt HXB.out.nm.lt; have x4 := Wr.txt_beq HXA.out.ab.lt HXB.out.ab.lt
  dsimp only at x1 x2 x3 x4
  have HIA : Hid (Ints Any W2 A5 n5 c5 ua) := Lib.hid HXA.out.un
  have HIB : Hid (Ints Any W2 B5 m5 e5 ub) := Lib.hid HXB.out.un
  have h63 : n5 ≤ 9223372036854775807 := by have a1 := HIA.out.2.1; have a2 := HIA.out.2.2.1; omega
  have h63' : m5 ≤ 9223372036854775807 := by have a1 := HIB.out.2.1; have a2 := HIB.out.2.2.1; omega
  clear HXA HXB
  by_cases hk : k1 = k2
  case neg =>
    have yk : (k1 != k2) = true := by rw [bne_iff_ne]; exact hk
    clear hk ca1 ca2 ca3 ca4 cb1 cb2 cb3 cb4 x1 x2 x3 x4
    obtain rfl : r = false := by rw [Bool.eq_false_iff]; intro h; have e := HR.out.1 h; injection e with e1; exact absurd e1 (by simpa using yk)
    go_enter Tryz.func43, Tryz.ntmps43
    go_wp2
    go_ret
    exact ⟨rfl, B2.out⟩
  subst hk
  by_cases h1 : ea = eb
  case neg =>
    rw [decide_eq_false h1] at x1
    have y1 : ((Wr.txt ea).toList != (Wr.txt eb).toList) = true := by rw [bne, x1]; rfl
    clear h1
    obtain rfl : r = false := by rw [Bool.eq_false_iff]; intro h; have e := HR.out.1 h; injection e; simp_all
    go_enter Tryz.func43, Tryz.ntmps43
    go_wp2
    go_ret
    exact ⟨rfl, B2.out⟩
  subst h1
  rw [decide_eq_true rfl] at x1
  have y1 : ((Wr.txt ea).toList != (Wr.txt ea).toList) = false := by rw [bne, x1]; rfl
  by_cases h2 : va = vb
  case neg =>
    rw [decide_eq_false h2] at x2
    have y2 : ((Wr.txt va).toList != (Wr.txt vb).toList) = true := by rw [bne, x2]; rfl
    clear h2
    obtain rfl : r = false := by rw [Bool.eq_false_iff]; intro h; have e := HR.out.1 h; injection e; simp_all
    go_enter Tryz.func43, Tryz.ntmps43
    go_wp2
    go_ret
    exact ⟨rfl, B2.out⟩
  subst h2
  rw [decide_eq_true rfl] at x2
  have y2 : ((Wr.txt va).toList != (Wr.txt va).toList) = false := by rw [bne, x2]; rfl
  by_cases h3 : na = nb
  case neg =>
    rw [decide_eq_false h3] at x3
    have y3 : ((Wr.txt na).toList != (Wr.txt nb).toList) = true := by rw [bne, x3]; rfl
    clear h3
    obtain rfl : r = false := by rw [Bool.eq_false_iff]; intro h; have e := HR.out.1 h; injection e; simp_all
    go_enter Tryz.func43, Tryz.ntmps43
    go_wp2
    go_ret
    exact ⟨rfl, B2.out⟩
  subst h3
  rw [decide_eq_true rfl] at x3
  have y3 : ((Wr.txt na).toList != (Wr.txt na).toList) = false := by rw [bne, x3]; rfl
  by_cases h4 : oa = ob
  case neg =>
    rw [decide_eq_false h4] at x4
    have y4 : ((Wr.txt oa).toList != (Wr.txt ob).toList) = true := by rw [bne, x4]; rfl
    clear h4
    obtain rfl : r = false := by rw [Bool.eq_false_iff]; intro h; have e := HR.out.1 h; injection e; simp_all
    go_enter Tryz.func43, Tryz.ntmps43
    go_wp2
    go_ret
    exact ⟨rfl, B2.out⟩
  subst h4
  rw [decide_eq_true rfl] at x4
  have y4 : ((Wr.txt oa).toList != (Wr.txt oa).toList) = false := by rw [bne, x4]; rfl
  have hna := HIA.out.len
  have hnb := HIB.out.len
  by_cases h5 : n5 = m5
  case neg =>
    have y5 : ((n5 : Int) != (m5 : Int)) = true := by rw [bne_iff_ne]; omega
    obtain rfl : r = false := by rw [Bool.eq_false_iff]; intro h; have e := HR.out.1 h; injection e; simp_all
    go_enter Tryz.func43, Tryz.ntmps43
    go_wp2
    go_ret
    exact ⟨rfl, B2.out⟩
  subst h5
  have HNA := Lib.hid hna; have HNB := Lib.hid hnb
  clear hna hnb
  go_enter Tryz.func43, Tryz.ntmps43
  go_wp2_with fail
  clear ca1 ca2 ca3 ca4 cb1 cb2 cb3 cb4 x1 x2 x3 x4 y1 y2 y3 y4 s0 s1 s2 s3 s4 s5 t0 t1 t2 t3 t4 t5 hW2
  go_loopw [5] (fun v W => ∃ k : Nat, k ≤ n5 ∧ v = .int .i64 k ∧ Hid (∀ j, j < k → gi ua j = gi ub j) ∧ Hid (Below W2.heap.size W2 W)) (fun v _ => n5 - (intOf v).toNat)
  case atStart => exact ⟨0, by omega, rfl, Lib.hid fun j h => absurd h (by omega), Lib.hid (Below.refl _ _)⟩
  case round =>
    obtain ⟨k, hk, rfl, HE, HW⟩ := hrel
    have HBw := Lib.hid (B2.out.trans (HW.out.mono B2.out.size))
    obtain ⟨s0, s1, s2, s3, s4, s5⟩ := (G1.out.below HW.out (by omega)).cs
    by_cases hkn : k < n5
    case neg =>
      have yk : ¬ (k : Int) < (n5 : Int) := by omega
      obtain rfl : r = true := HR.out.2 (by rw [ints_ext (xs := ua) (ys := ub) (by rw [HNA.out, HNB.out]) fun j hj => HE.out j (by rw [HNA.out] at hj; omega)])
      go_wp2
      go_ret
      exact ⟨rfl, HBw.out⟩
    have yk : (k : Int) < (n5 : Int) := by omega
    obtain ⟨x, rfl⟩ := HIA.out.some (by omega)
    obtain ⟨y, rfl⟩ := HIB.out.some (by omega)
    have HWd : Hid (Below W2.heap.size W2 wr.drew) := Lib.hid HW.out.drew
    have HA : Hid (∀ W, Below wr.drew.heap.size wr.drew W → W.cell? (x.add k) = some (.int .i64 (gi ua k)) ∧ W.cell? ⟨w.heap.size, 5, none⟩ = some (.slice (some x) n5 c5)) := Lib.hid fun W hb => by
      have hq := HWd.out.trans (hb.mono HWd.out.size)
      exact ⟨(HIA.out.below hq).cell k hkn, (G1.out.below hq (by omega)).cs.2.2.2.2.2⟩
    have HB : Hid (∀ W, Below wr.drew.heap.size wr.drew W → W.cell? (y.add k) = some (.int .i64 (gi ub k)) ∧ W.cell? ⟨w.heap.size + 1, 5, none⟩ = some (.slice (some y) n5 e5)) := Lib.hid fun W hb => by
      have hq := HWd.out.trans (hb.mono HWd.out.size)
      exact ⟨(HIB.out.below hq).cell k hkn, (G2.out.below hq hs2).cs.2.2.2.2.2⟩
    have HBd := Lib.hid (B2.out.trans (HWd.out.mono B2.out.size))
    by_cases hx : gi ua k = gi ub k
    · have HE' : Hid (∀ j, j < k + 1 → gi ua j = gi ub j) := Lib.hid fun j hj => by
        by_cases e : j = k
        · subst e; exact hx
        · exact HE.out j (by omega)
      rw [← hx] at HB
      clear hx HE
      generalize gi ua k = z at *
      go_wp2_with fail
      try simp only [Act.put]
      refine Wr.region_calm ?_
      refine wp_region_any (by kernel_rfl) ?_
      change wpAny _ _ _ _ _ _ _ (World.drew wr)
      generalize World.drew wr = wd at *
      have HSwd : Hid (Below wd.heap.size wd wd) := Lib.hid (Below.refl _ _)
      refine wpAny_of_held (S := fun W => Below wd.heap.size wd W) _ _ _ _ ?_
      refine wpAnyH_take (i := 0) (v := ?ve19) rfl (by kernel_rfl) (by kernel_rfl) (by kernel_rfl) (fun _ _ _ h => h) (Or.inl ⟨by rfl, ?ye19⟩) HSwd.out ?re19
      case ye19 => (intro w' hSw; clear hSw; go_simp; try with_reducible rfl)
      simp only [List.getElem_toArray, List.getElem_cons_succ, List.getElem_cons_zero, Act.put, List.setIfInBounds_toArray, List.set_cons_zero, List.set_cons_succ]
      refine wpAnyH_take (i := 1) (v := ?ve20) rfl (by kernel_rfl) (by kernel_rfl) (by kernel_rfl) (fun _ _ _ h => h) (Or.inl ⟨by rfl, ?ye20⟩) HSwd.out ?re20
      case ye20 => (intro w' hSw; have hq_wd : Below wd.heap.size wd w' := hSw; have hq := hq_wd; obtain ⟨c1, c1'⟩ := HA.out _ hq; obtain ⟨c2, c2'⟩ := HB.out _ hq; clear hSw; try clear hq hq_wd; go_simp; try with_reducible rfl)
      simp only [List.getElem_toArray, List.getElem_cons_succ, List.getElem_cons_zero, Act.put, List.setIfInBounds_toArray, List.set_cons_zero, List.set_cons_succ]
      refine wpAnyH_take (i := 2) (v := ?ve21) rfl (by kernel_rfl) (by kernel_rfl) (by kernel_rfl) (fun _ _ _ h => h) (Or.inl ⟨by rfl, ?ye21⟩) HSwd.out ?re21
      case ye21 => (intro w' hSw; clear hSw; go_simp; try with_reducible rfl)
      simp only [List.getElem_toArray, List.getElem_cons_succ, List.getElem_cons_zero, Act.put, List.setIfInBounds_toArray, List.set_cons_zero, List.set_cons_succ]
      refine wpAnyH_take (i := 3) (v := ?ve22) rfl (by kernel_rfl) (by kernel_rfl) (by kernel_rfl) (fun _ _ _ h => h) (Or.inl ⟨by rfl, ?ye22⟩) HSwd.out ?re22
      case ye22 => (intro w' hSw; clear hSw; go_simp; try with_reducible rfl)
      simp only [List.getElem_toArray, List.getElem_cons_succ, List.getElem_cons_zero, Act.put, List.setIfInBounds_toArray, List.set_cons_zero, List.set_cons_succ]
      refine wpAnyH_take (i := 4) (v := ?ve23) rfl (by kernel_rfl) (by kernel_rfl) (by kernel_rfl) (fun _ _ _ h => h) (Or.inl ⟨by rfl, ?ye23⟩) HSwd.out ?re23
      case ye23 => (intro w' hSw; have hq_wd : Below wd.heap.size wd w' := hSw; have hq := hq_wd; obtain ⟨c1, c1'⟩ := HA.out _ hq; obtain ⟨c2, c2'⟩ := HB.out _ hq; clear hSw; try clear hq hq_wd; go_simp; try with_reducible rfl)
      simp only [List.getElem_toArray, List.getElem_cons_succ, List.getElem_cons_zero, Act.put, List.setIfInBounds_toArray, List.set_cons_zero, List.set_cons_succ]
      refine wpAnyH_take (i := 5) (v := ?ve24) rfl (by kernel_rfl) (by kernel_rfl) (by kernel_rfl) (fun _ _ _ h => h) (Or.inl ⟨by rfl, ?ye24⟩) HSwd.out ?re24
      case ye24 => (intro w' hSw; clear hSw; go_simp; try with_reducible rfl)
      simp only [List.getElem_toArray, List.getElem_cons_succ, List.getElem_cons_zero, Act.put, List.setIfInBounds_toArray, List.set_cons_zero, List.set_cons_succ]
      refine wpAnyH_take (i := 6) (v := ?ve25) rfl (by kernel_rfl) (by kernel_rfl) (by kernel_rfl) (fun _ _ _ h => h) (Or.inl ⟨by rfl, ?ye25⟩) HSwd.out ?re25
      case ye25 => (intro w' hSw; have hq_wd : Below wd.heap.size wd w' := hSw; have hq := hq_wd; obtain ⟨c1, c1'⟩ := HA.out _ hq; obtain ⟨c2, c2'⟩ := HB.out _ hq; clear hSw; try clear hq hq_wd; go_simp; try with_reducible rfl)
      simp only [List.getElem_toArray, List.getElem_cons_succ, List.getElem_cons_zero, Act.put, List.setIfInBounds_toArray, List.set_cons_zero, List.set_cons_succ]
      refine wpAnyH_take (i := 7) (v := ?ve26) rfl (by kernel_rfl) (by kernel_rfl) (by kernel_rfl) (fun _ _ _ h => h) (Or.inl ⟨by rfl, ?ye26⟩) HSwd.out ?re26
      case ye26 => (intro w' hSw; clear hSw; go_simp; try with_reducible rfl)
      simp only [List.getElem_toArray, List.getElem_cons_succ, List.getElem_cons_zero, Act.put, List.setIfInBounds_toArray, List.set_cons_zero, List.set_cons_succ]
      refine wpAnyH_take (i := 8) (v := ?ve27) rfl (by kernel_rfl) (by kernel_rfl) (by kernel_rfl) (fun _ _ _ h => h) (Or.inl ⟨by rfl, ?ye27⟩) HSwd.out ?re27
      case ye27 => (intro w' hSw; clear hSw; go_simp; try with_reducible rfl)
      simp only [List.getElem_toArray, List.getElem_cons_succ, List.getElem_cons_zero, Act.put, List.setIfInBounds_toArray, List.set_cons_zero, List.set_cons_succ]
      refine wpAnyH_take (i := 9) (v := ?ve28) rfl (by kernel_rfl) (by kernel_rfl) (by kernel_rfl) (fun _ _ _ h => h) (Or.inl ⟨by rfl, ?ye28⟩) HSwd.out ?re28
      case ye28 => (intro w' hSw; have hq_wd : Below wd.heap.size wd w' := hSw; have hq := hq_wd; obtain ⟨c1, c1'⟩ := HA.out _ hq; obtain ⟨c2, c2'⟩ := HB.out _ hq; clear hSw; try clear hq hq_wd; go_simp; try with_reducible rfl)
      simp only [List.getElem_toArray, List.getElem_cons_succ, List.getElem_cons_zero, Act.put, List.setIfInBounds_toArray, List.set_cons_zero, List.set_cons_succ]
      refine wpAnyH_take (i := 10) (v := ?ve29) rfl (by kernel_rfl) (by kernel_rfl) (by kernel_rfl) (fun _ _ _ h => h) (Or.inl ⟨by rfl, ?ye29⟩) HSwd.out ?re29
      case ye29 => (intro w' hSw; clear hSw; go_simp; try with_reducible rfl)
      simp only [List.getElem_toArray, List.getElem_cons_succ, List.getElem_cons_zero, Act.put, List.setIfInBounds_toArray, List.set_cons_zero, List.set_cons_succ]
      refine wpAnyH_done (by kernel_rfl) ?_ _
      change Exit.then _ _ Exit.normal _ _
      go_wp2
      go_roundw
      case rel => exact ⟨k + 1, by omega, by go_num, HE', HWd⟩
      case measure => simp [intOf]; omega
    · obtain rfl : r = false := by rw [Bool.eq_false_iff]; intro h; have e := HR.out.1 h; injection e; exact hx (by simp_all)
      have yx : (gi ua k != gi ub k) = true := by rw [bne_iff_ne]; exact hx
      clear hx HE
      generalize gi ua k = z at *
      generalize gi ub k = z2 at *
      go_wp2_with fail
      try simp only [Act.put]
      refine Wr.region_calm ?_
      refine wp_region_any (by kernel_rfl) ?_
      change wpAny _ _ _ _ _ _ _ (World.drew wr)
      generalize World.drew wr = wd at *
      have HSwd : Hid (Below wd.heap.size wd wd) := Lib.hid (Below.refl _ _)
      refine wpAny_of_held (S := fun W => Below wd.heap.size wd W) _ _ _ _ ?_
      refine wpAnyH_take (i := 0) (v := ?ve30) rfl (by kernel_rfl) (by kernel_rfl) (by kernel_rfl) (fun _ _ _ h => h) (Or.inl ⟨by rfl, ?ye30⟩) HSwd.out ?re30
      case ye30 => (intro w' hSw; clear hSw; go_simp; try with_reducible rfl)
      simp only [List.getElem_toArray, List.getElem_cons_succ, List.getElem_cons_zero, Act.put, List.setIfInBounds_toArray, List.set_cons_zero, List.set_cons_succ]
      refine wpAnyH_take (i := 1) (v := ?ve31) rfl (by kernel_rfl) (by kernel_rfl) (by kernel_rfl) (fun _ _ _ h => h) (Or.inl ⟨by rfl, ?ye31⟩) HSwd.out ?re31
      case ye31 => (intro w' hSw; have hq_wd : Below wd.heap.size wd w' := hSw; have hq := hq_wd; obtain ⟨c1, c1'⟩ := HA.out _ hq; obtain ⟨c2, c2'⟩ := HB.out _ hq; clear hSw; try clear hq hq_wd; go_simp; try with_reducible rfl)
      simp only [List.getElem_toArray, List.getElem_cons_succ, List.getElem_cons_zero, Act.put, List.setIfInBounds_toArray, List.set_cons_zero, List.set_cons_succ]
      refine wpAnyH_take (i := 2) (v := ?ve32) rfl (by kernel_rfl) (by kernel_rfl) (by kernel_rfl) (fun _ _ _ h => h) (Or.inl ⟨by rfl, ?ye32⟩) HSwd.out ?re32
      case ye32 => (intro w' hSw; clear hSw; go_simp; try with_reducible rfl)
      simp only [List.getElem_toArray, List.getElem_cons_succ, List.getElem_cons_zero, Act.put, List.setIfInBounds_toArray, List.set_cons_zero, List.set_cons_succ]
      refine wpAnyH_take (i := 3) (v := ?ve33) rfl (by kernel_rfl) (by kernel_rfl) (by kernel_rfl) (fun _ _ _ h => h) (Or.inl ⟨by rfl, ?ye33⟩) HSwd.out ?re33
      case ye33 => (intro w' hSw; clear hSw; go_simp; try with_reducible rfl)
      simp only [List.getElem_toArray, List.getElem_cons_succ, List.getElem_cons_zero, Act.put, List.setIfInBounds_toArray, List.set_cons_zero, List.set_cons_succ]
      refine wpAnyH_take (i := 4) (v := ?ve34) rfl (by kernel_rfl) (by kernel_rfl) (by kernel_rfl) (fun _ _ _ h => h) (Or.inl ⟨by rfl, ?ye34⟩) HSwd.out ?re34
      case ye34 => (intro w' hSw; have hq_wd : Below wd.heap.size wd w' := hSw; have hq := hq_wd; obtain ⟨c1, c1'⟩ := HA.out _ hq; obtain ⟨c2, c2'⟩ := HB.out _ hq; clear hSw; try clear hq hq_wd; go_simp; try with_reducible rfl)
      simp only [List.getElem_toArray, List.getElem_cons_succ, List.getElem_cons_zero, Act.put, List.setIfInBounds_toArray, List.set_cons_zero, List.set_cons_succ]
      refine wpAnyH_take (i := 5) (v := ?ve35) rfl (by kernel_rfl) (by kernel_rfl) (by kernel_rfl) (fun _ _ _ h => h) (Or.inl ⟨by rfl, ?ye35⟩) HSwd.out ?re35
      case ye35 => (intro w' hSw; clear hSw; go_simp; try with_reducible rfl)
      simp only [List.getElem_toArray, List.getElem_cons_succ, List.getElem_cons_zero, Act.put, List.setIfInBounds_toArray, List.set_cons_zero, List.set_cons_succ]
      refine wpAnyH_take (i := 6) (v := ?ve36) rfl (by kernel_rfl) (by kernel_rfl) (by kernel_rfl) (fun _ _ _ h => h) (Or.inl ⟨by rfl, ?ye36⟩) HSwd.out ?re36
      case ye36 => (intro w' hSw; have hq_wd : Below wd.heap.size wd w' := hSw; have hq := hq_wd; obtain ⟨c1, c1'⟩ := HA.out _ hq; obtain ⟨c2, c2'⟩ := HB.out _ hq; clear hSw; try clear hq hq_wd; go_simp; try with_reducible rfl)
      simp only [List.getElem_toArray, List.getElem_cons_succ, List.getElem_cons_zero, Act.put, List.setIfInBounds_toArray, List.set_cons_zero, List.set_cons_succ]
      refine wpAnyH_take (i := 7) (v := ?ve37) rfl (by kernel_rfl) (by kernel_rfl) (by kernel_rfl) (fun _ _ _ h => h) (Or.inl ⟨by rfl, ?ye37⟩) HSwd.out ?re37
      case ye37 => (intro w' hSw; clear hSw; go_simp; try with_reducible rfl)
      simp only [List.getElem_toArray, List.getElem_cons_succ, List.getElem_cons_zero, Act.put, List.setIfInBounds_toArray, List.set_cons_zero, List.set_cons_succ]
      refine wpAnyH_take (i := 8) (v := ?ve38) rfl (by kernel_rfl) (by kernel_rfl) (by kernel_rfl) (fun _ _ _ h => h) (Or.inl ⟨by rfl, ?ye38⟩) HSwd.out ?re38
      case ye38 => (intro w' hSw; clear hSw; go_simp; try with_reducible rfl)
      simp only [List.getElem_toArray, List.getElem_cons_succ, List.getElem_cons_zero, Act.put, List.setIfInBounds_toArray, List.set_cons_zero, List.set_cons_succ]
      refine wpAnyH_take (i := 9) (v := ?ve39) rfl (by kernel_rfl) (by kernel_rfl) (by kernel_rfl) (fun _ _ _ h => h) (Or.inl ⟨by rfl, ?ye39⟩) HSwd.out ?re39
      case ye39 => (intro w' hSw; have hq_wd : Below wd.heap.size wd w' := hSw; have hq := hq_wd; obtain ⟨c1, c1'⟩ := HA.out _ hq; obtain ⟨c2, c2'⟩ := HB.out _ hq; clear hSw; try clear hq hq_wd; go_simp; try with_reducible rfl)
      simp only [List.getElem_toArray, List.getElem_cons_succ, List.getElem_cons_zero, Act.put, List.setIfInBounds_toArray, List.set_cons_zero, List.set_cons_succ]
      refine wpAnyH_take (i := 10) (v := ?ve40) rfl (by kernel_rfl) (by kernel_rfl) (by kernel_rfl) (fun _ _ _ h => h) (Or.inl ⟨by rfl, ?ye40⟩) HSwd.out ?re40
      case ye40 => (intro w' hSw; clear hSw; go_simp; try with_reducible rfl)
      simp only [List.getElem_toArray, List.getElem_cons_succ, List.getElem_cons_zero, Act.put, List.setIfInBounds_toArray, List.set_cons_zero, List.set_cons_succ]
      refine wpAnyH_done (by kernel_rfl) ?_ _
      change Exit.then _ _ Exit.normal _ _
      go_wp2
      go_ret
      exact ⟨rfl, HBd.out⟩
end Go.Proofs.YtakglldffpnlaaaGreatDoor.Rt
