/- Walks: the document's Same of two trees. Written by tools/mk_rtsamet.py. -/
import Derived.Test.YtakglldffpnlaaaGreatDoorRtSame
import Derived.Test.YtakglldffpnlaaaGreatDoorRtBoundP
namespace Go.Proofs.YtakglldffpnlaaaGreatDoor.Rt
set_option linter.all false
open Go.RowKit
open Wr (Txt Any New)

theorem two_trees (w : World) (D : Int) (A : Option Addr) (n c : Nat) (E : Int) (B : Option Addr) (m e : Nat) : ∃ W, (w.alloc (.cells #[.int .i64 D, .slice A n c] 24)).alloc (.cells #[.int .i64 E, .slice B m e] 24) = W ∧ TrB D A n c W w.heap.size ∧ TrB E B m e W (w.heap.size + 1) ∧ Below w.heap.size w W := by
  refine ⟨_, rfl, (Below.heap_alloc _ _ _ (by simp)).trans (heap_alloc_last w _), ?_, ((Below.refl _ _).alloc (Nat.le_refl _) _).alloc (by simp) _⟩
  have := heap_alloc_last (w.alloc (.cells #[.int .i64 D, .slice A n c] 24)) (.cells #[.int .i64 E, .slice B m e] 24)
  rwa [World.size_alloc] at this

set_option maxHeartbeats 4000000 in
set_option maxRecDepth 100000 in
theorem same_is (D : Int) (A : Option Addr) (n c : Nat) (ns : List Nd) (E : Int) (B : Option Addr) (m e : Nat) (ms : List Nd) (r : Bool) (w : World) (hN : Nodes Any Any w A n c ns) (hM : Nodes Any Any w B m e ms) (hr : r = true ↔ D = E ∧ ns = ms) :
    Calls Tryz.prog 15 #[.agg #[.int .i64 D, .slice A n c], .agg #[.int .i64 E, .slice B m e]] w fun e w' => e = .returned (.bool r) ∧ Below w.heap.size w w' := by
  obtain ⟨W2, hW2, g1, g2, hB2⟩ := two_trees w D A n c E B m e
  have HN := Lib.hid (hN.kept hB2.size (fun x _ hx => hB2.block x hx) fun x _ hx => hB2.block x hx); have HM := Lib.hid (hM.kept hB2.size (fun x _ hx => hB2.block x hx) fun x _ hx => hB2.block x hx)
  have HR := Lib.hid hr; have B2 := Lib.hid hB2; have G1 := Lib.hid g1; have G2 := Lib.hid g2
  have l1 := g1.lt
  have l2 := g2.lt
  have h63 : n ≤ 9223372036854775807 := by have a1 := hN.2.1; have a2 := hN.2.2.1; omega
  have h63' : m ≤ 9223372036854775807 := by have a1 := hM.2.1; have a2 := hM.2.2.1; omega
  have hn := hN.len
  have hm := hM.len
  obtain ⟨s0, s1⟩ := g1.cs
  obtain ⟨t0, t1⟩ := g2.cs
  clear hN hM hr g1 g2 hB2
  by_cases hD : D = E
  case neg =>
    have y0 : (D != E) = true := by rw [bne_iff_ne]; exact hD
    obtain rfl : r = false := by rw [Bool.eq_false_iff]; intro h; exact hD (HR.out.1 h).1
    clear hD hn hm
    go_enter Tryz.func15, Tryz.ntmps15
    go_wp2
    go_ret
    exact ⟨rfl, B2.out⟩
  subst hD
  by_cases hnm : n = m
  case neg =>
    have y0 : ((n : Int) != (m : Int)) = true := by rw [bne_iff_ne]; omega
    obtain rfl : r = false := by rw [Bool.eq_false_iff]; intro h; exact hnm (by rw [← hn, ← hm, (HR.out.1 h).2])
    clear hnm hn hm
    go_enter Tryz.func15, Tryz.ntmps15
    go_wp2
    go_ret
    exact ⟨rfl, B2.out⟩
  subst hnm
  have HL := Lib.hid (And.intro hn hm)
  clear hn hm
  go_enter Tryz.func15, Tryz.ntmps15
  go_wp2_with fail
  clear s0 s1 t0 t1 hW2
  go_loopw [5] (fun v W => ∃ k : Nat, k ≤ n ∧ v = .int .i64 k ∧ Hid (∀ j, j < k → nd ns j = nd ms j) ∧ Hid (Below W2.heap.size W2 W)) (fun v _ => n - (intOf v).toNat)
  case atStart => exact ⟨0, by omega, rfl, Lib.hid fun j h => absurd h (by omega), Lib.hid (Below.refl _ _)⟩
  case round =>
    obtain ⟨k, hk, rfl, HE, HW⟩ := hrel
    have HBw := Lib.hid (B2.out.trans (HW.out.mono B2.out.size))
    obtain ⟨s0, s1⟩ := (G1.out.below HW.out l1).cs
    by_cases hkn : k < n
    case neg =>
      have yk : ¬ (k : Int) < (n : Int) := by omega
      obtain rfl : r = true := HR.out.2 ⟨trivial, nd_ext (by rw [HL.out.1, HL.out.2]) fun j hj => HE.out j (by rw [HL.out.1] at hj; omega)⟩
      go_wp2
      go_ret
      exact ⟨rfl, HBw.out⟩
    have yk : (k : Int) < (n : Int) := by omega
    obtain ⟨x, rfl⟩ := HN.out.some (by omega)
    obtain ⟨y, rfl⟩ := HM.out.some (by omega)
    have HWd : Hid (Below W2.heap.size W2 wr.drew) := Lib.hid HW.out.drew
    obtain ⟨qa, ha1, ha2⟩ := (HN.out.below HWd.out).at k hkn
    obtain ⟨qb, hb1, hb2⟩ := (HM.out.below HWd.out).at k hkn
    have HIA := Lib.hid ha2; have HIB := Lib.hid hb2
    have HA : Hid (∀ W, Below wr.drew.heap.size wr.drew W → NdAt W (x.add (k * 6)) qa) := Lib.hid fun W hb => ha1.of_block (hb.block _ (block_lt_of_cell ha1.cells.1))
    have HB : Hid (∀ W, Below wr.drew.heap.size wr.drew W → NdAt W (y.add (k * 6)) qb) := Lib.hid fun W hb => hb1.of_block (hb.block _ (block_lt_of_cell hb1.cells.1))
    have HT1 := Lib.hid (G1.out.below HWd.out l1); have HT2 := Lib.hid (G2.out.below HWd.out l2)
    have HL1 : Hid (w.heap.size < wr.drew.heap.size) := Lib.hid (Nat.lt_of_lt_of_le l1 HWd.out.size)
    have HL2 : Hid (w.heap.size + 1 < wr.drew.heap.size) := Lib.hid (Nat.lt_of_lt_of_le l2 HWd.out.size)
    have HBd := Lib.hid (B2.out.trans (HWd.out.mono B2.out.size))
    clear ha1 ha2 hb1 hb2
    by_cases hx : nd ns k = nd ms k
    · have HE' : Hid (∀ j, j < k + 1 → nd ns j = nd ms j) := Lib.hid fun j hj => by
        by_cases e : j = k
        · subst e; exact hx
        · exact HE.out j (by omega)
      have HQ := Lib.hid hx
      clear hx HE
      go_wp2_with fail
      try simp only [Act.put]
      refine Wr.region_calm ?_
      refine wp_region_any (by kernel_rfl) ?_
      change wpAny _ _ _ _ _ _ _ (World.drew wr)
      generalize World.drew wr = wd at *
      have HSwd : Hid (Below wd.heap.size wd wd) := Lib.hid (Below.refl _ _)
      refine wpAny_of_held (S := fun W => Below wd.heap.size wd W) _ _ _ _ ?_
      refine wpAnyH_take (i := 0) (v := ?ve1) rfl (by kernel_rfl) (by kernel_rfl) (by kernel_rfl) (fun _ _ _ h => h) (Or.inl ⟨by rfl, ?ye1⟩) HSwd.out ?re1
      case ye1 => (intro w' hSw; clear hSw; go_simp; try with_reducible rfl)
      simp only [List.getElem_toArray, List.getElem_cons_succ, List.getElem_cons_zero, Act.put, List.setIfInBounds_toArray, List.set_cons_zero, List.set_cons_succ]
      refine wpAnyH_take (i := 1) (v := ?ve2) rfl (by kernel_rfl) (by kernel_rfl) (by kernel_rfl) (fun _ _ _ h => h) (Or.inl ⟨by rfl, ?ye2⟩) HSwd.out ?re2
      case ye2 => (intro w' hSw; have hq_wd : Below wd.heap.size wd w' := hSw; have hq := hq_wd; obtain ⟨s0, s1⟩ := (HT1.out.below hq HL1.out).cs; obtain ⟨t0, t1⟩ := (HT2.out.below hq HL2.out).cs; obtain ⟨c0, c1, c2, c3, c4, c5⟩ := (HA.out _ hq).cells; obtain ⟨d0, d1, d2, d3, d4, d5⟩ := (HB.out _ hq).cells; clear hSw; try clear hq hq_wd; go_simp; try with_reducible rfl)
      simp only [List.getElem_toArray, List.getElem_cons_succ, List.getElem_cons_zero, Act.put, List.setIfInBounds_toArray, List.set_cons_zero, List.set_cons_succ]
      refine wpAnyH_take (i := 2) (v := ?ve3) rfl (by kernel_rfl) (by kernel_rfl) (by kernel_rfl) (fun _ _ _ h => h) (Or.inl ⟨by rfl, ?ye3⟩) HSwd.out ?re3
      case ye3 => (intro w' hSw; clear hSw; go_simp; try with_reducible rfl)
      simp only [List.getElem_toArray, List.getElem_cons_succ, List.getElem_cons_zero, Act.put, List.setIfInBounds_toArray, List.set_cons_zero, List.set_cons_succ]
      refine wpAnyH_take (i := 3) (v := ?ve4) rfl (by kernel_rfl) (by kernel_rfl) (by kernel_rfl) (fun _ _ _ h => h) (Or.inl ⟨by rfl, ?ye4⟩) HSwd.out ?re4
      case ye4 => (intro w' hSw; clear hSw; go_simp; try with_reducible rfl)
      simp only [List.getElem_toArray, List.getElem_cons_succ, List.getElem_cons_zero, Act.put, List.setIfInBounds_toArray, List.set_cons_zero, List.set_cons_succ]
      refine wpAnyH_take (i := 4) (v := ?ve5) rfl (by kernel_rfl) (by kernel_rfl) (by kernel_rfl) (fun _ _ _ h => h) (Or.inl ⟨by rfl, ?ye5⟩) HSwd.out ?re5
      case ye5 => (intro w' hSw; have hq_wd : Below wd.heap.size wd w' := hSw; have hq := hq_wd; obtain ⟨s0, s1⟩ := (HT1.out.below hq HL1.out).cs; obtain ⟨t0, t1⟩ := (HT2.out.below hq HL2.out).cs; obtain ⟨c0, c1, c2, c3, c4, c5⟩ := (HA.out _ hq).cells; obtain ⟨d0, d1, d2, d3, d4, d5⟩ := (HB.out _ hq).cells; clear hSw; try clear hq hq_wd; go_simp; try with_reducible rfl)
      simp only [List.getElem_toArray, List.getElem_cons_succ, List.getElem_cons_zero, Act.put, List.setIfInBounds_toArray, List.set_cons_zero, List.set_cons_succ]
      refine wpAnyH_take (i := 5) (v := ?ve6) rfl (by kernel_rfl) (by kernel_rfl) (by kernel_rfl) (fun _ _ _ h => h) (Or.inl ⟨by rfl, ?ye6⟩) HSwd.out ?re6
      case ye6 => (intro w' hSw; clear hSw; go_simp; try with_reducible rfl)
      simp only [List.getElem_toArray, List.getElem_cons_succ, List.getElem_cons_zero, Act.put, List.setIfInBounds_toArray, List.set_cons_zero, List.set_cons_succ]
      refine wpAnyH_take (i := 6) (v := ?ve7) rfl (by kernel_rfl) (by kernel_rfl) (by kernel_rfl) (fun _ _ _ h => h) (Or.inl ⟨by rfl, ?ye7⟩) HSwd.out ?re7
      case ye7 => (intro w' hSw; have hq_wd : Below wd.heap.size wd w' := hSw; have hq := hq_wd; obtain ⟨s0, s1⟩ := (HT1.out.below hq HL1.out).cs; obtain ⟨t0, t1⟩ := (HT2.out.below hq HL2.out).cs; obtain ⟨c0, c1, c2, c3, c4, c5⟩ := (HA.out _ hq).cells; obtain ⟨d0, d1, d2, d3, d4, d5⟩ := (HB.out _ hq).cells; clear hSw; try clear hq hq_wd; go_simp; try with_reducible rfl)
      simp only [List.getElem_toArray, List.getElem_cons_succ, List.getElem_cons_zero, Act.put, List.setIfInBounds_toArray, List.set_cons_zero, List.set_cons_succ]
      refine wpAnyH_take (i := 7) (v := ?ve8) rfl (by kernel_rfl) (by kernel_rfl) (by kernel_rfl) (fun _ _ _ h => h) (Or.inl ⟨by rfl, ?ye8⟩) HSwd.out ?re8
      case ye8 => (intro w' hSw; clear hSw; go_simp; try with_reducible rfl)
      simp only [List.getElem_toArray, List.getElem_cons_succ, List.getElem_cons_zero, Act.put, List.setIfInBounds_toArray, List.set_cons_zero, List.set_cons_succ]
      refine wpAnyH_take (i := 8) (v := ?ve9) rfl (by kernel_rfl) (by kernel_rfl) (by kernel_rfl) (fun _ _ _ h => h) (Or.inl ⟨by rfl, ?ye9⟩) HSwd.out ?re9
      case ye9 => (intro w' hSw; clear hSw; go_simp; try with_reducible rfl)
      simp only [List.getElem_toArray, List.getElem_cons_succ, List.getElem_cons_zero, Act.put, List.setIfInBounds_toArray, List.set_cons_zero, List.set_cons_succ]
      refine wpAnyH_take (i := 9) (v := ?ve10) rfl (by kernel_rfl) (by kernel_rfl) (by kernel_rfl) (fun _ _ _ h => h) (Or.inl ⟨by rfl, ?ye10⟩) HSwd.out ?re10
      case ye10 => (intro w' hSw; have hq_wd : Below wd.heap.size wd w' := hSw; have hq := hq_wd; obtain ⟨s0, s1⟩ := (HT1.out.below hq HL1.out).cs; obtain ⟨t0, t1⟩ := (HT2.out.below hq HL2.out).cs; obtain ⟨c0, c1, c2, c3, c4, c5⟩ := (HA.out _ hq).cells; obtain ⟨d0, d1, d2, d3, d4, d5⟩ := (HB.out _ hq).cells; clear hSw; try clear hq hq_wd; go_simp; try with_reducible rfl)
      simp only [List.getElem_toArray, List.getElem_cons_succ, List.getElem_cons_zero, Act.put, List.setIfInBounds_toArray, List.set_cons_zero, List.set_cons_succ]
      refine wpAnyH_ready (rs := [10]) (by kernel_rfl) (by simp) ?_
      refine AllReadyH.cons rfl (fun K' hK => ?_) AllReadyH.nil
      simp only [List.getElem_toArray, List.getElem_cons_succ, List.getElem_cons_zero]
      go_simp
      refine (sameNode_is qa qb _ _ true wd HIA.out HIB.out (by simp [HQ.out])).mono ?_
      rintro e' w5 ⟨rfl, hb⟩
      have HU_wd_w5 := Lib.hid hb
      have HW5 := Lib.hid (HWd.out.trans (hb.mono HWd.out.size)); clear hb
      refine hK.out _ _ HU_wd_w5.out (fun _ => ?_)
      clear hK
      try simp only [List.getElem_toArray, List.getElem_cons_succ, List.getElem_cons_zero, Act.put, List.setIfInBounds_toArray, List.set_cons_zero, List.set_cons_succ]
      have HSw5 : Hid (Below w5.heap.size w5 w5) := Lib.hid (Below.refl _ _)
      refine Sha.wpAnyH_more (S' := fun W => Below w5.heap.size w5 W) (fun W h => HU_wd_w5.out.trans (h.mono HU_wd_w5.out.size)) _ _ _ _ ?_
      refine wpAnyH_take (i := 11) (v := ?ve11) rfl (by kernel_rfl) (by kernel_rfl) (by kernel_rfl) (fun _ _ _ h => h) (Or.inl ⟨by rfl, ?ye11⟩) HSw5.out ?re11
      case ye11 => (intro w' hSw; clear hSw; go_simp; try with_reducible rfl)
      simp only [List.getElem_toArray, List.getElem_cons_succ, List.getElem_cons_zero, Act.put, List.setIfInBounds_toArray, List.set_cons_zero, List.set_cons_succ]
      refine wpAnyH_done (by kernel_rfl) ?_ _
      change Exit.then _ _ Exit.normal _ _
      go_wp2
      go_roundw
      case rel => exact ⟨k + 1, by omega, by go_num, HE', HW5⟩
      case measure => simp [intOf]; omega
    · have HQ := Lib.hid hx
      obtain rfl : r = false := by rw [Bool.eq_false_iff]; intro h; exact hx (by rw [(HR.out.1 h).2])
      clear hx HE
      go_wp2_with fail
      try simp only [Act.put]
      refine Wr.region_calm ?_
      refine wp_region_any (by kernel_rfl) ?_
      change wpAny _ _ _ _ _ _ _ (World.drew wr)
      generalize World.drew wr = wd at *
      have HSwd : Hid (Below wd.heap.size wd wd) := Lib.hid (Below.refl _ _)
      refine wpAny_of_held (S := fun W => Below wd.heap.size wd W) _ _ _ _ ?_
      refine wpAnyH_take (i := 0) (v := ?ve12) rfl (by kernel_rfl) (by kernel_rfl) (by kernel_rfl) (fun _ _ _ h => h) (Or.inl ⟨by rfl, ?ye12⟩) HSwd.out ?re12
      case ye12 => (intro w' hSw; clear hSw; go_simp; try with_reducible rfl)
      simp only [List.getElem_toArray, List.getElem_cons_succ, List.getElem_cons_zero, Act.put, List.setIfInBounds_toArray, List.set_cons_zero, List.set_cons_succ]
      refine wpAnyH_take (i := 1) (v := ?ve13) rfl (by kernel_rfl) (by kernel_rfl) (by kernel_rfl) (fun _ _ _ h => h) (Or.inl ⟨by rfl, ?ye13⟩) HSwd.out ?re13
      case ye13 => (intro w' hSw; have hq_wd : Below wd.heap.size wd w' := hSw; have hq := hq_wd; obtain ⟨s0, s1⟩ := (HT1.out.below hq HL1.out).cs; obtain ⟨t0, t1⟩ := (HT2.out.below hq HL2.out).cs; obtain ⟨c0, c1, c2, c3, c4, c5⟩ := (HA.out _ hq).cells; obtain ⟨d0, d1, d2, d3, d4, d5⟩ := (HB.out _ hq).cells; clear hSw; try clear hq hq_wd; go_simp; try with_reducible rfl)
      simp only [List.getElem_toArray, List.getElem_cons_succ, List.getElem_cons_zero, Act.put, List.setIfInBounds_toArray, List.set_cons_zero, List.set_cons_succ]
      refine wpAnyH_take (i := 2) (v := ?ve14) rfl (by kernel_rfl) (by kernel_rfl) (by kernel_rfl) (fun _ _ _ h => h) (Or.inl ⟨by rfl, ?ye14⟩) HSwd.out ?re14
      case ye14 => (intro w' hSw; clear hSw; go_simp; try with_reducible rfl)
      simp only [List.getElem_toArray, List.getElem_cons_succ, List.getElem_cons_zero, Act.put, List.setIfInBounds_toArray, List.set_cons_zero, List.set_cons_succ]
      refine wpAnyH_take (i := 3) (v := ?ve15) rfl (by kernel_rfl) (by kernel_rfl) (by kernel_rfl) (fun _ _ _ h => h) (Or.inl ⟨by rfl, ?ye15⟩) HSwd.out ?re15
      case ye15 => (intro w' hSw; clear hSw; go_simp; try with_reducible rfl)
      simp only [List.getElem_toArray, List.getElem_cons_succ, List.getElem_cons_zero, Act.put, List.setIfInBounds_toArray, List.set_cons_zero, List.set_cons_succ]
      refine wpAnyH_take (i := 4) (v := ?ve16) rfl (by kernel_rfl) (by kernel_rfl) (by kernel_rfl) (fun _ _ _ h => h) (Or.inl ⟨by rfl, ?ye16⟩) HSwd.out ?re16
      case ye16 => (intro w' hSw; have hq_wd : Below wd.heap.size wd w' := hSw; have hq := hq_wd; obtain ⟨s0, s1⟩ := (HT1.out.below hq HL1.out).cs; obtain ⟨t0, t1⟩ := (HT2.out.below hq HL2.out).cs; obtain ⟨c0, c1, c2, c3, c4, c5⟩ := (HA.out _ hq).cells; obtain ⟨d0, d1, d2, d3, d4, d5⟩ := (HB.out _ hq).cells; clear hSw; try clear hq hq_wd; go_simp; try with_reducible rfl)
      simp only [List.getElem_toArray, List.getElem_cons_succ, List.getElem_cons_zero, Act.put, List.setIfInBounds_toArray, List.set_cons_zero, List.set_cons_succ]
      refine wpAnyH_take (i := 5) (v := ?ve17) rfl (by kernel_rfl) (by kernel_rfl) (by kernel_rfl) (fun _ _ _ h => h) (Or.inl ⟨by rfl, ?ye17⟩) HSwd.out ?re17
      case ye17 => (intro w' hSw; clear hSw; go_simp; try with_reducible rfl)
      simp only [List.getElem_toArray, List.getElem_cons_succ, List.getElem_cons_zero, Act.put, List.setIfInBounds_toArray, List.set_cons_zero, List.set_cons_succ]
      refine wpAnyH_take (i := 6) (v := ?ve18) rfl (by kernel_rfl) (by kernel_rfl) (by kernel_rfl) (fun _ _ _ h => h) (Or.inl ⟨by rfl, ?ye18⟩) HSwd.out ?re18
      case ye18 => (intro w' hSw; have hq_wd : Below wd.heap.size wd w' := hSw; have hq := hq_wd; obtain ⟨s0, s1⟩ := (HT1.out.below hq HL1.out).cs; obtain ⟨t0, t1⟩ := (HT2.out.below hq HL2.out).cs; obtain ⟨c0, c1, c2, c3, c4, c5⟩ := (HA.out _ hq).cells; obtain ⟨d0, d1, d2, d3, d4, d5⟩ := (HB.out _ hq).cells; clear hSw; try clear hq hq_wd; go_simp; try with_reducible rfl)
      simp only [List.getElem_toArray, List.getElem_cons_succ, List.getElem_cons_zero, Act.put, List.setIfInBounds_toArray, List.set_cons_zero, List.set_cons_succ]
      refine wpAnyH_take (i := 7) (v := ?ve19) rfl (by kernel_rfl) (by kernel_rfl) (by kernel_rfl) (fun _ _ _ h => h) (Or.inl ⟨by rfl, ?ye19⟩) HSwd.out ?re19
      case ye19 => (intro w' hSw; clear hSw; go_simp; try with_reducible rfl)
      simp only [List.getElem_toArray, List.getElem_cons_succ, List.getElem_cons_zero, Act.put, List.setIfInBounds_toArray, List.set_cons_zero, List.set_cons_succ]
      refine wpAnyH_take (i := 8) (v := ?ve20) rfl (by kernel_rfl) (by kernel_rfl) (by kernel_rfl) (fun _ _ _ h => h) (Or.inl ⟨by rfl, ?ye20⟩) HSwd.out ?re20
      case ye20 => (intro w' hSw; clear hSw; go_simp; try with_reducible rfl)
      simp only [List.getElem_toArray, List.getElem_cons_succ, List.getElem_cons_zero, Act.put, List.setIfInBounds_toArray, List.set_cons_zero, List.set_cons_succ]
      refine wpAnyH_take (i := 9) (v := ?ve21) rfl (by kernel_rfl) (by kernel_rfl) (by kernel_rfl) (fun _ _ _ h => h) (Or.inl ⟨by rfl, ?ye21⟩) HSwd.out ?re21
      case ye21 => (intro w' hSw; have hq_wd : Below wd.heap.size wd w' := hSw; have hq := hq_wd; obtain ⟨s0, s1⟩ := (HT1.out.below hq HL1.out).cs; obtain ⟨t0, t1⟩ := (HT2.out.below hq HL2.out).cs; obtain ⟨c0, c1, c2, c3, c4, c5⟩ := (HA.out _ hq).cells; obtain ⟨d0, d1, d2, d3, d4, d5⟩ := (HB.out _ hq).cells; clear hSw; try clear hq hq_wd; go_simp; try with_reducible rfl)
      simp only [List.getElem_toArray, List.getElem_cons_succ, List.getElem_cons_zero, Act.put, List.setIfInBounds_toArray, List.set_cons_zero, List.set_cons_succ]
      refine wpAnyH_ready (rs := [10]) (by kernel_rfl) (by simp) ?_
      refine AllReadyH.cons rfl (fun K' hK => ?_) AllReadyH.nil
      simp only [List.getElem_toArray, List.getElem_cons_succ, List.getElem_cons_zero]
      go_simp
      refine (sameNode_is qa qb _ _ false wd HIA.out HIB.out (by simp [HQ.out])).mono ?_
      rintro e' w5 ⟨rfl, hb⟩
      have HU_wd_w5 := Lib.hid hb
      have HW5 := Lib.hid (HWd.out.trans (hb.mono HWd.out.size)); clear hb
      refine hK.out _ _ HU_wd_w5.out (fun _ => ?_)
      clear hK
      try simp only [List.getElem_toArray, List.getElem_cons_succ, List.getElem_cons_zero, Act.put, List.setIfInBounds_toArray, List.set_cons_zero, List.set_cons_succ]
      have HSw5 : Hid (Below w5.heap.size w5 w5) := Lib.hid (Below.refl _ _)
      refine Sha.wpAnyH_more (S' := fun W => Below w5.heap.size w5 W) (fun W h => HU_wd_w5.out.trans (h.mono HU_wd_w5.out.size)) _ _ _ _ ?_
      refine wpAnyH_take (i := 11) (v := ?ve22) rfl (by kernel_rfl) (by kernel_rfl) (by kernel_rfl) (fun _ _ _ h => h) (Or.inl ⟨by rfl, ?ye22⟩) HSw5.out ?re22
      case ye22 => (intro w' hSw; clear hSw; go_simp; try with_reducible rfl)
      simp only [List.getElem_toArray, List.getElem_cons_succ, List.getElem_cons_zero, Act.put, List.setIfInBounds_toArray, List.set_cons_zero, List.set_cons_succ]
      refine wpAnyH_done (by kernel_rfl) ?_ _
      change Exit.then _ _ Exit.normal _ _
      go_wp2
      go_ret
      exact ⟨rfl, B2.out.trans (HW5.out.mono B2.out.size)⟩
end Go.Proofs.YtakglldffpnlaaaGreatDoor.Rt
