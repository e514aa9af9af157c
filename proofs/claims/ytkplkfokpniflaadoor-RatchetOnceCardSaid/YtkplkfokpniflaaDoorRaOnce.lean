/- RatchetOnce: the law's walk. Written by tools/mk_raonce.py. -/
import Derived.Test.YtkplkfokpniflaaDoorRaOnceP
import Derived.Test.YtkplkfokpniflaaDoorRaOrder
namespace Go.Proofs.YtkplkfokpniflaaDoor.Ra
set_option linter.all false
open Go.RowKit
open Wr (Txt Any New bcells gt)

theorem zero256 : Tryd.zeroCells37 = Array.replicate 256 (.bool false) := by kernel_rfl
theorem fresh256 (w : World) : (w.alloc (.cells Tryd.zeroCells37 37)).rowIs w.heap.size 37 256 (useds fun _ => false) := by
  rw [zero256]
  have h := World.rowIs_alloc w (Array.replicate 256 (Value.bool false)) 37 (useds fun _ => false) (fun i hi => by
    have hi : i < 256 := by simpa using hi
    rw [Array.getElem?_replicate, if_pos hi]; rfl)
  simpa using h

set_option maxHeartbeats 8000000 in
set_option maxRecDepth 100000 in
theorem ratchetOnce_walk (A : Option Addr) (b : List Nat) (n c : Nat) (G : Option Addr) (gs : List Nat) (gn gc : Nat) (w : World) (hT : Tabs w) (hA : Txt Any w A n c b) (hG : Txt Any w G gn gc gs) :
    Calls Tryd.prog 4 #[.slice A n c, .slice G gn gc] w fun e w' => e = .returned (.bool true) ∧ Below w.heap.size w w' := by
  have HT := Lib.hid hT; have HA := Lib.hid hA; have HG := Lib.hid hG
  clear hT hA hG
  go_enter Tryd.func4, Tryd.ntmps4
  go_wp2_with fail
  refine (head_any w HT.out).mono ?_
  rintro e' w1 ⟨rfl, hb⟩
  have B1 := Lib.hid hb
  clear hb
  go_wp2_with fail
  refine (new_is A b n c w1 (HA.out.below B1.out)).mono ?_
  rintro e' w4 ⟨⟨qg, QA, qn, qc, QK, qnk, qck⟩, rfl, hI, hb⟩
  dsimp only [RkQ.cs]
  have ba := (Below.refl w4.heap.size w4).alloc (Nat.le_refl _) (.cells (RkQ.cs ⟨qg, QA, qn, qc, QK, qnk, qck⟩) 25)
  have hk := RkB.new ⟨qg, QA, qn, qc, QK, qnk, qck⟩ w4
  obtain ⟨w5, hww5⟩ : ∃ W, w4.alloc (.cells (RkQ.cs ⟨qg, QA, qn, qc, QK, qnk, qck⟩) 25) = W := ⟨_, rfl⟩
  obtain ⟨gR, hgR⟩ : ∃ g, w4.heap.size = g := ⟨_, rfl⟩
  rw [hww5] at ba hk
  rw [hgR] at hk
  dsimp only [RkQ.cs] at hww5
  have HGR : Hid (w4.heap.size = gR ∧ w1.heap.size ≤ w4.heap.size) := Lib.hid ⟨hgR, hb.size⟩
  have HI5 : Hid (RkIs (fun y => w1.heap.size ≤ y ∧ y ≠ gR) w5 ⟨qg, QA, qn, qc, QK, qnk, qck⟩ (newR b)) := Lib.hid ((hI.mono fun y hy h => ⟨h, by omega⟩).below ba)
  have HK5 : Hid (RkB ⟨qg, QA, qn, qc, QK, qnk, qck⟩ w5 gR) := Lib.hid hk
  have HB5 : Hid (Below w1.heap.size w1 w5) := Lib.hid (hb.trans (ba.mono hb.size))
  have HBw : Hid (Below w.heap.size w w5) := Lib.hid (B1.out.trans (HB5.out.mono B1.out.size))
  clear hI hb ba hk
  obtain ⟨s0, s1, s2⟩ := HK5.out.cs
  dsimp only at s0 s1 s2
  by_cases h32 : n = 32
  case neg =>
    have CR := right_is ⟨qg, QA, qn, qc, QK, qnk, qck⟩ (newR b) false w5 HI5.out.any (by rw [show newR b = zR from if_neg (by rw [HA.out.len]; exact h32)]; rfl)
    dsimp only [RkQ.cs] at CR
    have CRH := Lib.hid CR
    clear CR
    go_wp2_with fail
    try rw [hww5]
    refine CRH.out.mono ?_
    rintro e' w6 ⟨rfl, hb⟩
    go_wp2
    go_ret
    exact ⟨rfl, HBw.out.trans (hb.mono HBw.out.size)⟩
  subst h32
  by_cases h40 : 40 < gn
  case pos =>
    go_wp2
    go_ret
    exact ⟨rfl, HBw.out⟩
  have HBL : Hid (b.length = 32) := Lib.hid HA.out.len
  have fu := fresh256 w5
  have b6 := (Below.refl w5.heap.size w5).alloc (Nat.le_refl _) (.cells Tryd.zeroCells37 37)
  obtain ⟨w6, hw6⟩ : ∃ W, w5.alloc (.cells Tryd.zeroCells37 37) = W := ⟨_, rfl⟩
  obtain ⟨gU, hgU⟩ : ∃ g, w5.heap.size = g := ⟨_, rfl⟩
  rw [hw6] at fu b6
  rw [hgU] at fu
  have HL : Hid (w1.heap.size ≤ gR ∧ gR < gU) := Lib.hid ⟨by have := HGR.out; omega, by have := HK5.out.lt; omega⟩
  have HB6 : Hid (Below w1.heap.size w1 w6) := Lib.hid (HB5.out.trans (b6.mono HB5.out.size))
  have HI6 : Hid (RkIs (Not2 gR gU) w6 ⟨qg, QA, qn, qc, QK, qnk, qck⟩ (newR b)) := Lib.hid ((HI5.out.mono fun y hy h => ⟨h.2, by omega⟩).below b6)
  have HK6 : Hid (RkB ⟨qg, QA, qn, qc, QK, qnk, qck⟩ w6 gR) := Lib.hid (HK5.out.below b6 HK5.out.lt)
  have HU6 : Hid (w6.rowIs gU 37 256 (useds fun _ => false)) := Lib.hid fu
  clear fu b6 s0 s1 s2
  go_wp2_with fail
  try rw [hw6]
  try rw [hgU]
  clear hw6 hgU hww5 hgR
  go_loopw [8] (fun v W => ∃ (i : Nat) (u : Nat → Bool) (r : Rk) (q : RkQ), i ≤ gn ∧ v = .int .i64 i ∧ Hid (Us u r) ∧ Hid (RkB q W gR) ∧ Hid (RkIs (Not2 gR gU) W q r) ∧ Hid (W.rowIs gU 37 256 (useds u)) ∧ Hid (Below w1.heap.size w1 W)) (fun v _ => gn - (intOf v).toNat)
  case atStart => exact ⟨0, _, _, _, by omega, rfl, Lib.hid (us_new HBL.out), HK6, HI6, HU6, HB6⟩
  case round =>
    obtain ⟨i, u, r, ⟨g0, QA, qn, qc, QK, qnk, qck⟩, hi, rfl, HUS, HK, HI, HUU, HB⟩ := hrel
    by_cases hi8 : i < gn
    case neg =>
      go_wp2
      go_ret
      exact ⟨rfl, B1.out.trans (HB.out.mono B1.out.size)⟩
    have HBr : Hid (Below w.heap.size w wr) := Lib.hid (B1.out.trans (HB.out.mono B1.out.size))
    obtain ⟨ad, had⟩ := txt_some HG.out (by omega)
    subst had
    have hx := HG.out.lt i
    obtain ⟨x', hxe⟩ : ∃ x, gt gs i = x := ⟨_, rfl⟩
    rw [hxe] at hx
    have HXE := Lib.hid hxe
    have CT := fun W (hw : Below wr.drew.heap.size wr.drew W) => take_is ⟨g0, QA, qn, qc, QK, qnk, qck⟩ r (x' : Int) W (HT.out.at (HBr.out.drew.trans (hw.mono HBr.out.size))) (HI.out.any.drew.below hw) (by omega)
    obtain ⟨tk, htk⟩ : ∃ x, takeR r (x' : Int) = x := ⟨_, rfl⟩
    have HUT := Lib.hid (us_take HUS.out hx)
    rw [htk] at HUT
    simp only [htk] at CT
    obtain ⟨rn, kb, er⟩ := tk
    dsimp only [RkQ.cs] at CT
    have CTd := Lib.hid CT
    have HKd : Hid (RkB ⟨g0, QA, qn, qc, QK, qnk, qck⟩ wr.drew gR) := HK
    have HGd : Hid (Txt Any wr.drew (some ad) gn gc gs) := Lib.hid (HG.out.below HBr.out.drew)
    have HLd : Hid (gR < wr.drew.heap.size ∧ gU < wr.drew.heap.size) := Lib.hid ⟨HK.out.lt, HUU.out.lt⟩
    clear CT htk hxe
    have yi : (i : Int) < gn := by omega
    have yw : IntKind.i64.wrap (x' : Int) = (x' : Int) := by rw [IntKind.wrap_i64]; omega
    go_wp2_with fail
    refine wp_cut (fun a (x : RkQ × Option Addr × Nat × Nat × Nat) => { tmps := ((((((((((((((a.tmps.setIfInBounds 41 (.agg #[.int .i64 g0, .slice QA qn qc, .slice QK qnk qck])).setIfInBounds 42 (.slice (some ad) gn gc)).setIfInBounds 43 (.int .i64 i)).setIfInBounds 44 (.pointer (some (ad.add i)))).setIfInBounds 45 (.int .u8 (x' : Nat))).setIfInBounds 46 (.int .i64 (x' : Nat))).setIfInBounds 47 (.tuple #[.agg (RkQ.cs x.1), .slice x.2.1 x.2.2.1 x.2.2.2.1, .int .i64 er])).setIfInBounds 40 (.tuple #[.agg (RkQ.cs x.1), .slice x.2.1 x.2.2.1 x.2.2.2.1, .int .i64 er])).setIfInBounds 48 (.agg (RkQ.cs x.1))).setIfInBounds 49 (.slice x.2.1 x.2.2.1 x.2.2.2.1)).setIfInBounds 50 (.int .i64 er)).setIfInBounds 9 (.pointer (some ⟨x.2.2.2.2, 0, none⟩))).setIfInBounds 10 (.slice x.2.1 x.2.2.1 x.2.2.2.1)).setIfInBounds 11 (.int .i64 er)), defers := a.defers })
        (fun x W => Hid (RkB x.1 W x.2.2.2.2 ∧ RkIs (fun y => wr.drew.heap.size ≤ y ∧ y ≠ x.2.2.2.2) W x.1 rn ∧ Txt Any W x.2.1 x.2.2.1 x.2.2.2.1 kb ∧ wr.drew.heap.size ≤ x.2.2.2.2 ∧ Below wr.drew.heap.size wr.drew W)) ?_ ?_
    case refine_1 =>
      try simp only [Act.put]
      refine Wr.region_calm ?_
      refine wp_region_any (by kernel_rfl) ?_
      change wpAny _ _ _ _ _ _ _ (World.drew wr)
      have HSwd : Hid (Below (World.drew wr).heap.size (World.drew wr) (World.drew wr)) := Lib.hid (Below.refl _ _)
      generalize World.drew wr = wd at *
      refine wpAny_of_held (S := fun W => Below wd.heap.size wd W) _ _ _ _ ?_
      refine wpAnyH_take (i := 0) (v := ?ve1) rfl (by kernel_rfl) (by kernel_rfl) (by kernel_rfl) (fun _ _ _ h => h) (Or.inl ⟨by rfl, ?ye1⟩) HSwd.out ?re1
      case ye1 => (intro w' hSw; obtain ⟨s0, s1, s2⟩ := RkB.cs (HKd.out.below hSw HKd.out.lt); have c4 := txt_cell (HGd.out.below hSw) hi8; rw [HXE.out] at c4; clear hSw; go_simp; try with_reducible rfl)
      simp only [List.getElem_toArray, List.getElem_cons_succ, List.getElem_cons_zero, Act.put, List.setIfInBounds_toArray, List.set_cons_zero, List.set_cons_succ]
      refine wpAnyH_take (i := 1) (v := ?ve2) rfl (by kernel_rfl) (by kernel_rfl) (by kernel_rfl) (fun _ _ _ h => h) (Or.inl ⟨by rfl, ?ye2⟩) HSwd.out ?re2
      case ye2 => (intro w' hSw; clear hSw; go_simp; try with_reducible rfl)
      simp only [List.getElem_toArray, List.getElem_cons_succ, List.getElem_cons_zero, Act.put, List.setIfInBounds_toArray, List.set_cons_zero, List.set_cons_succ]
      refine wpAnyH_take (i := 2) (v := ?ve3) rfl (by kernel_rfl) (by kernel_rfl) (by kernel_rfl) (fun _ _ _ h => h) (Or.inl ⟨by rfl, ?ye3⟩) HSwd.out ?re3
      case ye3 => (intro w' hSw; clear hSw; go_simp; try with_reducible rfl)
      simp only [List.getElem_toArray, List.getElem_cons_succ, List.getElem_cons_zero, Act.put, List.setIfInBounds_toArray, List.set_cons_zero, List.set_cons_succ]
      refine wpAnyH_take (i := 3) (v := ?ve4) rfl (by kernel_rfl) (by kernel_rfl) (by kernel_rfl) (fun _ _ _ h => h) (Or.inl ⟨by rfl, ?ye4⟩) HSwd.out ?re4
      case ye4 => (intro w' hSw; clear hSw; go_simp; try with_reducible rfl)
      simp only [List.getElem_toArray, List.getElem_cons_succ, List.getElem_cons_zero, Act.put, List.setIfInBounds_toArray, List.set_cons_zero, List.set_cons_succ]
      refine wpAnyH_take (i := 4) (v := ?ve5) rfl (by kernel_rfl) (by kernel_rfl) (by kernel_rfl) (fun _ _ _ h => h) (Or.inl ⟨by rfl, ?ye5⟩) HSwd.out ?re5
      case ye5 => (intro w' hSw; obtain ⟨s0, s1, s2⟩ := RkB.cs (HKd.out.below hSw HKd.out.lt); have c4 := txt_cell (HGd.out.below hSw) hi8; rw [HXE.out] at c4; clear hSw; go_simp; try with_reducible rfl)
      simp only [List.getElem_toArray, List.getElem_cons_succ, List.getElem_cons_zero, Act.put, List.setIfInBounds_toArray, List.set_cons_zero, List.set_cons_succ]
      refine wpAnyH_take (i := 5) (v := ?ve6) rfl (by kernel_rfl) (by kernel_rfl) (by kernel_rfl) (fun _ _ _ h => h) (Or.inl ⟨by rfl, ?ye6⟩) HSwd.out ?re6
      case ye6 => (intro w' hSw; clear hSw; go_simp; try with_reducible rfl)
      simp only [List.getElem_toArray, List.getElem_cons_succ, List.getElem_cons_zero, Act.put, List.setIfInBounds_toArray, List.set_cons_zero, List.set_cons_succ]
      refine wpAnyH_ready (rs := [6, 11]) (by kernel_rfl) (by simp) ?_
      refine (AllReadyH.cons rfl (fun K' hK => ?_) (AllReadyH.cons rfl (fun K' hK => ?_) AllReadyH.nil))
      · skip
        simp only [List.getElem_toArray, List.getElem_cons_succ, List.getElem_cons_zero]
        go_simp
        refine (CTd.out wd HSwd.out).mono ?_
        rintro e' cl1 ⟨⟨g1, QA1, qn1, qc1, QK1, qnk1, qck1⟩, A6, n6, c6, rfl, hI, hX, hXI, hb⟩
        dsimp only [RkQ.cs]
        have HScl1 := Lib.hid (HSwd.out.trans (hb.mono HSwd.out.size))
        have HIcl1 : Hid (RkIs (fun y => wd.heap.size ≤ y) cl1 ⟨g1, QA1, qn1, qc1, QK1, qnk1, qck1⟩ rn) := Lib.hid (hI.mono fun y hy h => Nat.le_trans HSwd.out.size h)
        have HXcl1 : Hid (Txt Any cl1 A6 n6 c6 kb) := Lib.hid hX
        have HXIcl1 : Hid (Inn (fun y => wd.heap.size ≤ y) A6 n6) := Lib.hid (hXI.mono fun y h => Nat.le_trans HSwd.out.size h)
        clear hI hX hXI hb
        refine hK.out _ _ HScl1.out (fun _ => ?_)
        clear hK
        try simp only [List.getElem_toArray, List.getElem_cons_succ, List.getElem_cons_zero, Act.put, List.setIfInBounds_toArray, List.set_cons_zero, List.set_cons_succ]
        refine wpAnyH_take (i := 7) (v := ?ve7) rfl (by kernel_rfl) (by kernel_rfl) (by kernel_rfl) (fun _ _ _ h => h) (Or.inl ⟨by rfl, ?ye7⟩) HScl1.out ?re7
        case ye7 => (intro w' hSw; clear hSw; go_simp; try with_reducible rfl)
        simp only [List.getElem_toArray, List.getElem_cons_succ, List.getElem_cons_zero, Act.put, List.setIfInBounds_toArray, List.set_cons_zero, List.set_cons_succ]
        refine wpAnyH_take (i := 8) (v := ?ve8) rfl (by kernel_rfl) (by kernel_rfl) (by kernel_rfl) (fun _ _ _ h => h) (Or.inl ⟨by rfl, ?ye8⟩) HScl1.out ?re8
        case ye8 => (intro w' hSw; clear hSw; go_simp; try with_reducible rfl)
        simp only [List.getElem_toArray, List.getElem_cons_succ, List.getElem_cons_zero, Act.put, List.setIfInBounds_toArray, List.set_cons_zero, List.set_cons_succ]
        refine wpAnyH_take (i := 9) (v := ?ve9) rfl (by kernel_rfl) (by kernel_rfl) (by kernel_rfl) (fun _ _ _ h => h) (Or.inl ⟨by rfl, ?ye9⟩) HScl1.out ?re9
        case ye9 => (intro w' hSw; clear hSw; go_simp; try with_reducible rfl)
        simp only [List.getElem_toArray, List.getElem_cons_succ, List.getElem_cons_zero, Act.put, List.setIfInBounds_toArray, List.set_cons_zero, List.set_cons_succ]
        refine wpAnyH_take (i := 10) (v := ?ve10) rfl (by kernel_rfl) (by kernel_rfl) (by kernel_rfl) (fun _ _ _ h => h) (Or.inl ⟨by rfl, ?ye10⟩) HScl1.out ?re10
        case ye10 => (intro w' hSw; clear hSw; go_simp; try with_reducible rfl)
        simp only [List.getElem_toArray, List.getElem_cons_succ, List.getElem_cons_zero, Act.put, List.setIfInBounds_toArray, List.set_cons_zero, List.set_cons_succ]
        refine wpAnyH_ready (rs := [11]) (by kernel_rfl) (by simp) ?_
        refine (AllReadyH.cons rfl (fun K' hK => ?_) AllReadyH.nil)
        simp only [List.getElem_toArray, List.getElem_cons_succ, List.getElem_cons_zero]
        go_simp
        have ba := (Below.refl cl1.heap.size cl1).alloc (Nat.le_refl _) (.cells zRQ.cs 25)
        have za := RkB.new zRQ cl1
        obtain ⟨al2, hwa⟩ : ∃ wa, cl1.alloc (.cells zRQ.cs 25) = wa := ⟨_, rfl⟩
        rw [hwa] at ba za
        dsimp only [zRQ, RkQ.cs] at hwa
        try rw [hwa]
        have HSal2 := Lib.hid (HScl1.out.trans (ba.mono HScl1.out.size)); have HZal2 := Lib.hid za; have HLal2 := Lib.hid (show wd.heap.size ≤ cl1.heap.size from HScl1.out.size)
        have HIal2 : Hid (RkIs (fun y => wd.heap.size ≤ y ∧ y ≠ cl1.heap.size) al2 ⟨g1, QA1, qn1, qc1, QK1, qnk1, qck1⟩ rn) := Lib.hid ((HIcl1.out.mono fun y hy h => ⟨h, by omega⟩).below ba)
        have HXal2 := Lib.hid (HXcl1.out.below ba)
        have HXIal2 : Hid (Inn (fun y => wd.heap.size ≤ y ∧ y ≠ cl1.heap.size) A6 n6) := Lib.hid ((HXIcl1.out.and (txt_in HXcl1.out)).mono fun y h => ⟨h.1, by have := h.2; omega⟩)
        clear hwa ba za
        refine hK.out _ _ HSal2.out (fun _ => ?_)
        clear hK
        try simp only [List.getElem_toArray, List.getElem_cons_succ, List.getElem_cons_zero, Act.put, List.setIfInBounds_toArray, List.set_cons_zero, List.set_cons_succ]
        refine wpAnyH_ready (rs := [12]) (by kernel_rfl) (by simp) ?_
        refine (AllReadyH.cons rfl (fun K' hK => ?_) AllReadyH.nil)
        simp only [List.getElem_toArray, List.getElem_cons_succ, List.getElem_cons_zero]
        rw [if_pos (by rfl)]
        refine wp_store_row 25 (.tmp 9) (.tmp 48) rfl (cl1.heap.size) (RkQ.cs ⟨g1, QA1, qn1, qc1, QK1, qnk1, qck1⟩) rfl rfl 25 zRQ.cs HZal2.out (rk_sized _) rfl (rk_all _) ?_
        have HRst3 : Hid (RkB ⟨g1, QA1, qn1, qc1, QK1, qnk1, qck1⟩ (al2.setRow (cl1.heap.size) (RkQ.cs ⟨g1, QA1, qn1, qc1, QK1, qnk1, qck1⟩)) (cl1.heap.size)) := Lib.hid (setRow_heap al2 (cl1.heap.size) _ _ 25 _ HZal2.out)
        have HIst3 : Hid (RkIs (fun y => wd.heap.size ≤ y ∧ y ≠ cl1.heap.size) (al2.setRow (cl1.heap.size) (RkQ.cs ⟨g1, QA1, qn1, qc1, QK1, qnk1, qck1⟩)) ⟨g1, QA1, qn1, qc1, QK1, qnk1, qck1⟩ rn) := Lib.hid (HIal2.out.keep (by simp [World.setRow]) fun y hy _ => setRow_other al2 _ y _ hy.2)
        have HXst3 : Hid (Txt Any (al2.setRow (cl1.heap.size) (RkQ.cs ⟨g1, QA1, qn1, qc1, QK1, qnk1, qck1⟩)) A6 n6 c6 kb) := Lib.hid (txt_keep HXal2.out HXIal2.out (by simp [World.setRow]) fun y hy _ => setRow_other al2 _ y _ hy.2)
        have HSst3 := Lib.hid (below_setRow HSal2.out HLal2.out (RkQ.cs ⟨g1, QA1, qn1, qc1, QK1, qnk1, qck1⟩))
        refine hK.out _ _ HSst3.out (fun _ => ?_)
        clear hK
        try simp only [List.getElem_toArray, List.getElem_cons_succ, List.getElem_cons_zero, Act.put, List.setIfInBounds_toArray, List.set_cons_zero, List.set_cons_succ]
        refine wpAnyH_take (i := 13) (v := ?ve11) rfl (by kernel_rfl) (by kernel_rfl) (by kernel_rfl) (fun _ _ _ h => h) (Or.inl ⟨by rfl, ?ye11⟩) HSst3.out ?re11
        case ye11 => (intro w' hSw; clear hSw; go_simp; try with_reducible rfl)
        simp only [List.getElem_toArray, List.getElem_cons_succ, List.getElem_cons_zero, Act.put, List.setIfInBounds_toArray, List.set_cons_zero, List.set_cons_succ]
        refine wpAnyH_take (i := 14) (v := ?ve12) rfl (by kernel_rfl) (by kernel_rfl) (by kernel_rfl) (fun _ _ _ h => h) (Or.inl ⟨by rfl, ?ye12⟩) HSst3.out ?re12
        case ye12 => (intro w' hSw; clear hSw; go_simp; try with_reducible rfl)
        simp only [List.getElem_toArray, List.getElem_cons_succ, List.getElem_cons_zero, Act.put, List.setIfInBounds_toArray, List.set_cons_zero, List.set_cons_succ]
        refine wpAnyH_done (by kernel_rfl) ?_ _
        exact ⟨(⟨g1, QA1, qn1, qc1, QK1, qnk1, qck1⟩, A6, n6, c6, cl1.heap.size), rfl, Lib.hid ⟨HRst3.out, HIst3.out, HXst3.out, HLal2.out, HSst3.out⟩⟩
      · skip
        simp only [List.getElem_toArray, List.getElem_cons_succ, List.getElem_cons_zero]
        go_simp
        have ba := (Below.refl wd.heap.size wd).alloc (Nat.le_refl _) (.cells zRQ.cs 25)
        have za := RkB.new zRQ wd
        obtain ⟨al4, hwa⟩ : ∃ wa, wd.alloc (.cells zRQ.cs 25) = wa := ⟨_, rfl⟩
        rw [hwa] at ba za
        dsimp only [zRQ, RkQ.cs] at hwa
        try rw [hwa]
        have HSal4 := Lib.hid (HSwd.out.trans (ba.mono HSwd.out.size)); have HZal4 := Lib.hid za; have HLal4 := Lib.hid (show wd.heap.size ≤ wd.heap.size from HSwd.out.size)
        clear hwa ba za
        refine hK.out _ _ HSal4.out (fun _ => ?_)
        clear hK
        try simp only [List.getElem_toArray, List.getElem_cons_succ, List.getElem_cons_zero, Act.put, List.setIfInBounds_toArray, List.set_cons_zero, List.set_cons_succ]
        refine wpAnyH_ready (rs := [6]) (by kernel_rfl) (by simp) ?_
        refine (AllReadyH.cons rfl (fun K' hK => ?_) AllReadyH.nil)
        simp only [List.getElem_toArray, List.getElem_cons_succ, List.getElem_cons_zero]
        go_simp
        refine (CTd.out al4 HSal4.out).mono ?_
        rintro e' cl5 ⟨⟨g1, QA1, qn1, qc1, QK1, qnk1, qck1⟩, A6, n6, c6, rfl, hI, hX, hXI, hb⟩
        dsimp only [RkQ.cs]
        have HScl5 := Lib.hid (HSal4.out.trans (hb.mono HSal4.out.size))
        have HZcl5 := Lib.hid (HZal4.out.below hb HZal4.out.lt)
        have HIcl5 : Hid (RkIs (fun y => wd.heap.size ≤ y ∧ y ≠ wd.heap.size) cl5 ⟨g1, QA1, qn1, qc1, QK1, qnk1, qck1⟩ rn) := Lib.hid (hI.mono fun y hy h => ⟨Nat.le_trans HSal4.out.size h, by have := HZal4.out.lt; omega⟩)
        have HXcl5 : Hid (Txt Any cl5 A6 n6 c6 kb) := Lib.hid hX
        have HXIcl5 : Hid (Inn (fun y => wd.heap.size ≤ y ∧ y ≠ wd.heap.size) A6 n6) := Lib.hid (hXI.mono fun y h => ⟨Nat.le_trans HSal4.out.size h, by have := HZal4.out.lt; omega⟩)
        clear hI hX hXI hb
        refine hK.out _ _ HScl5.out (fun _ => ?_)
        clear hK
        try simp only [List.getElem_toArray, List.getElem_cons_succ, List.getElem_cons_zero, Act.put, List.setIfInBounds_toArray, List.set_cons_zero, List.set_cons_succ]
        refine wpAnyH_take (i := 7) (v := ?ve13) rfl (by kernel_rfl) (by kernel_rfl) (by kernel_rfl) (fun _ _ _ h => h) (Or.inl ⟨by rfl, ?ye13⟩) HScl5.out ?re13
        case ye13 => (intro w' hSw; clear hSw; go_simp; try with_reducible rfl)
        simp only [List.getElem_toArray, List.getElem_cons_succ, List.getElem_cons_zero, Act.put, List.setIfInBounds_toArray, List.set_cons_zero, List.set_cons_succ]
        refine wpAnyH_take (i := 8) (v := ?ve14) rfl (by kernel_rfl) (by kernel_rfl) (by kernel_rfl) (fun _ _ _ h => h) (Or.inl ⟨by rfl, ?ye14⟩) HScl5.out ?re14
        case ye14 => (intro w' hSw; clear hSw; go_simp; try with_reducible rfl)
        simp only [List.getElem_toArray, List.getElem_cons_succ, List.getElem_cons_zero, Act.put, List.setIfInBounds_toArray, List.set_cons_zero, List.set_cons_succ]
        refine wpAnyH_take (i := 9) (v := ?ve15) rfl (by kernel_rfl) (by kernel_rfl) (by kernel_rfl) (fun _ _ _ h => h) (Or.inl ⟨by rfl, ?ye15⟩) HScl5.out ?re15
        case ye15 => (intro w' hSw; clear hSw; go_simp; try with_reducible rfl)
        simp only [List.getElem_toArray, List.getElem_cons_succ, List.getElem_cons_zero, Act.put, List.setIfInBounds_toArray, List.set_cons_zero, List.set_cons_succ]
        refine wpAnyH_take (i := 10) (v := ?ve16) rfl (by kernel_rfl) (by kernel_rfl) (by kernel_rfl) (fun _ _ _ h => h) (Or.inl ⟨by rfl, ?ye16⟩) HScl5.out ?re16
        case ye16 => (intro w' hSw; clear hSw; go_simp; try with_reducible rfl)
        simp only [List.getElem_toArray, List.getElem_cons_succ, List.getElem_cons_zero, Act.put, List.setIfInBounds_toArray, List.set_cons_zero, List.set_cons_succ]
        refine wpAnyH_ready (rs := [12]) (by kernel_rfl) (by simp) ?_
        refine (AllReadyH.cons rfl (fun K' hK => ?_) AllReadyH.nil)
        simp only [List.getElem_toArray, List.getElem_cons_succ, List.getElem_cons_zero]
        rw [if_pos (by rfl)]
        refine wp_store_row 25 (.tmp 9) (.tmp 48) rfl (wd.heap.size) (RkQ.cs ⟨g1, QA1, qn1, qc1, QK1, qnk1, qck1⟩) rfl rfl 25 zRQ.cs HZcl5.out (rk_sized _) rfl (rk_all _) ?_
        have HRst6 : Hid (RkB ⟨g1, QA1, qn1, qc1, QK1, qnk1, qck1⟩ (cl5.setRow (wd.heap.size) (RkQ.cs ⟨g1, QA1, qn1, qc1, QK1, qnk1, qck1⟩)) (wd.heap.size)) := Lib.hid (setRow_heap cl5 (wd.heap.size) _ _ 25 _ HZcl5.out)
        have HIst6 : Hid (RkIs (fun y => wd.heap.size ≤ y ∧ y ≠ wd.heap.size) (cl5.setRow (wd.heap.size) (RkQ.cs ⟨g1, QA1, qn1, qc1, QK1, qnk1, qck1⟩)) ⟨g1, QA1, qn1, qc1, QK1, qnk1, qck1⟩ rn) := Lib.hid (HIcl5.out.keep (by simp [World.setRow]) fun y hy _ => setRow_other cl5 _ y _ hy.2)
        have HXst6 : Hid (Txt Any (cl5.setRow (wd.heap.size) (RkQ.cs ⟨g1, QA1, qn1, qc1, QK1, qnk1, qck1⟩)) A6 n6 c6 kb) := Lib.hid (txt_keep HXcl5.out HXIcl5.out (by simp [World.setRow]) fun y hy _ => setRow_other cl5 _ y _ hy.2)
        have HSst6 := Lib.hid (below_setRow HScl5.out HLal4.out (RkQ.cs ⟨g1, QA1, qn1, qc1, QK1, qnk1, qck1⟩))
        refine hK.out _ _ HSst6.out (fun _ => ?_)
        clear hK
        try simp only [List.getElem_toArray, List.getElem_cons_succ, List.getElem_cons_zero, Act.put, List.setIfInBounds_toArray, List.set_cons_zero, List.set_cons_succ]
        refine wpAnyH_take (i := 13) (v := ?ve17) rfl (by kernel_rfl) (by kernel_rfl) (by kernel_rfl) (fun _ _ _ h => h) (Or.inl ⟨by rfl, ?ye17⟩) HSst6.out ?re17
        case ye17 => (intro w' hSw; clear hSw; go_simp; try with_reducible rfl)
        simp only [List.getElem_toArray, List.getElem_cons_succ, List.getElem_cons_zero, Act.put, List.setIfInBounds_toArray, List.set_cons_zero, List.set_cons_succ]
        refine wpAnyH_take (i := 14) (v := ?ve18) rfl (by kernel_rfl) (by kernel_rfl) (by kernel_rfl) (fun _ _ _ h => h) (Or.inl ⟨by rfl, ?ye18⟩) HSst6.out ?re18
        case ye18 => (intro w' hSw; clear hSw; go_simp; try with_reducible rfl)
        simp only [List.getElem_toArray, List.getElem_cons_succ, List.getElem_cons_zero, Act.put, List.setIfInBounds_toArray, List.set_cons_zero, List.set_cons_succ]
        refine wpAnyH_done (by kernel_rfl) ?_ _
        exact ⟨(⟨g1, QA1, qn1, qc1, QK1, qnk1, qck1⟩, A6, n6, c6, wd.heap.size), rfl, Lib.hid ⟨HRst6.out, HIst6.out, HXst6.out, HLal4.out, HSst6.out⟩⟩
    case refine_2 =>
      rintro ⟨⟨g1, QA1, qn1, qc1, QK1, qnk1, qck1⟩, A6, n6, c6, gS⟩ w7 H
      simp only [List.setIfInBounds_toArray, List.set_cons_succ, List.set_cons_zero]
      dsimp only [RkQ.cs] at H ⊢
      have HR7 := Lib.hid H.out.1; have HI7 := Lib.hid H.out.2.1; have HX7 := Lib.hid H.out.2.2.1; have HL7 := Lib.hid H.out.2.2.2.1; have HS7 := Lib.hid H.out.2.2.2.2
      clear H
      have HUU7 : Hid (w7.rowIs gU 37 256 (useds u)) := Lib.hid (HUU.out.drew.of_block (HS7.out.block _ HLd.out.2))
      have HG7 : Hid (Txt Any w7 (some ad) gn gc gs) := Lib.hid (HGd.out.below HS7.out)
      have HKR7 : Hid (RkB ⟨g0, QA, qn, qc, QK, qnk, qck⟩ w7 gR) := Lib.hid (HKd.out.below HS7.out HLd.out.1)
      have HIR7 : Hid (RkIs (Not2 gR gU) w7 ⟨g0, QA, qn, qc, QK, qnk, qck⟩ r) := Lib.hid (HI.out.drew.below HS7.out)
      have HB7 : Hid (Below w1.heap.size w1 w7) := Lib.hid (HB.out.drew.trans (HS7.out.mono HB.out.drew.size))
      have c4 := txt_cell HG7.out hi8
      rw [HXE.out] at c4
      have cu := HUU7.out.cell hx
      unfold useds at cu
      have yx : (x' : Int) < 256 := by omega
      rcases HUT.out with h | ⟨h, hu⟩ | ⟨r', k', h, hu, hk, hU'⟩
      · obtain ⟨rfl, rfl, rfl⟩ : rn = zR ∧ kb = [] ∧ er = 171 := by simpa using h
        obtain rfl : n6 = 0 := by rw [← HX7.out.len]; rfl
        cases hu : u x' <;> rw [hu] at cu
        all_goals
          clear HUT h hu
          go_wp2
          go_roundw
          case rel => exact ⟨i + 1, u, r, _, by omega, by go_num, HUS, HKR7, HIR7, HUU7, HB7⟩
          case measure => simp [intOf]; omega
      · obtain ⟨rfl, rfl, rfl⟩ : rn = zR ∧ kb = [] ∧ er = 172 := by simpa using h
        obtain rfl : n6 = 0 := by rw [← HX7.out.len]; rfl
        rw [hu] at cu
        clear HUT h hu
        go_wp2
        go_roundw
        case rel => exact ⟨i + 1, u, r, _, by omega, by go_num, HUS, HKR7, HIR7, HUU7, HB7⟩
        case measure => simp [intOf]; omega
      obtain ⟨rfl, rfl, rfl⟩ : rn = r' ∧ kb = k' ∧ er = 0 := by simpa using h
      obtain rfl : n6 = 32 := by rw [← HX7.out.len]; exact hk
      rw [hu] at cu
      have HUS' := Lib.hid hU'
      have CR := right_is ⟨g1, QA1, qn1, qc1, QK1, qnk1, qck1⟩ rn true w7 HI7.out.any ((right_iff _).2 hU'.right)
      dsimp only [RkQ.cs] at CR
      have CRH := Lib.hid CR
      obtain ⟨t0, t1, t2⟩ := HR7.out.cs
      dsimp only at t0 t1 t2
      have HL8 : Hid (wr.drew.heap.size ≤ gS ∧ gR ≠ gU ∧ gU < wr.drew.heap.size ∧ gR < wr.drew.heap.size ∧ w1.heap.size ≤ gR ∧ w1.heap.size ≤ gU) := Lib.hid ⟨HL7.out, by have := HL.out; omega, HLd.out.2, HLd.out.1, HL.out.1, by have := HL.out; omega⟩
      clear HUT h hu hk hU' CR
      go_wp2_with fail
      refine CRH.out.mono ?_
      rintro e' w8 ⟨rfl, hb⟩
      have HR8 : Hid (RkB ⟨g1, QA1, qn1, qc1, QK1, qnk1, qck1⟩ w8 gS) := Lib.hid (HR7.out.below hb HR7.out.lt)
      have HI8 := Lib.hid (HI7.out.below hb)
      have HUU8 : Hid (w8.rowIs gU 37 256 (useds u)) := Lib.hid (HUU7.out.of_block (hb.block _ HUU7.out.lt))
      have HG8 : Hid (Txt Any w8 (some ad) gn gc gs) := Lib.hid (HG7.out.below hb)
      have HKR8 : Hid (RkB ⟨g0, QA, qn, qc, QK, qnk, qck⟩ w8 gR) := Lib.hid (HKR7.out.below hb HKR7.out.lt)
      have HB8 : Hid (Below w1.heap.size w1 w8) := Lib.hid (HB7.out.trans (hb.mono HB7.out.size))
      clear hb c4 cu t0 t1 t2
      have c4 := txt_cell HG8.out hi8
      rw [HXE.out] at c4
      have d0 := HUU8.out.cell hx
      have d1 := HUU8.out.frozen x'
      obtain ⟨w9, hw9⟩ : ∃ W, w8.setCell ⟨gU, x', none⟩ (.bool true) = W := ⟨_, rfl⟩
      have hg9 : w8.grownBy w9 (some gU) := by rw [← hw9]; exact grown_set (World.grownBy.refl _ _) x' _
      have HUU9 : Hid (w9.rowIs gU 37 256 (useds (upd u x'))) := Lib.hid (by rw [← hw9]; exact useds_set HUU8.out)
      have HG9 := Lib.hid hg9
      have HR9 : Hid (RkB ⟨g1, QA1, qn1, qc1, QK1, qnk1, qck1⟩ w9 gS) := Lib.hid ((hg9.block _ HR8.out.lt (by intro e; injection e with e; have := HL8.out; omega)).trans HR8.out)
      have HKR9 : Hid (RkB ⟨g0, QA, qn, qc, QK, qnk, qck⟩ w9 gR) := Lib.hid ((hg9.block _ HKR8.out.lt (by intro e; injection e with e; have := HL8.out; omega)).trans HKR8.out)
      have HI9 := Lib.hid (HI8.out.keep hg9.size fun y hy hlt => hg9.block y hlt (by intro e; injection e with e; have := HL8.out; omega))
      have HB9 : Hid (Below w1.heap.size w1 w9) := Lib.hid (HB8.out.trans (below_grown hg9 (by have := HL8.out; omega) HB8.out.size))
      obtain ⟨t0, t1, t2⟩ := HR9.out.cs
      dsimp only at t0 t1 t2
      clear hg9
      go_wp2_with (refine wpList_store_row rfl 25 (.tmp 6) (.tmp 87) rfl gR (RkQ.cs ⟨g1, QA1, qn1, qc1, QK1, qnk1, qck1⟩) rfl rfl 25 (RkQ.cs ⟨g0, QA, qn, qc, QK, qnk, qck⟩) HKR9.out (rk_sized _) rfl (rk_all _) ?_)
      have HQ10 : Hid (RkB ⟨g1, QA1, qn1, qc1, QK1, qnk1, qck1⟩ (w9.setRow gR (RkQ.cs ⟨g1, QA1, qn1, qc1, QK1, qnk1, qck1⟩)) gR) := Lib.hid (setRow_heap w9 gR _ _ 25 _ HKR9.out)
      have HI10 : Hid (RkIs (Not2 gR gU) (w9.setRow gR (RkQ.cs ⟨g1, QA1, qn1, qc1, QK1, qnk1, qck1⟩)) ⟨g1, QA1, qn1, qc1, QK1, qnk1, qck1⟩ rn) := Lib.hid ((HI9.out.keep (by simp [World.setRow]) fun y hy _ => setRow_other w9 _ y _ (by have := HL8.out; omega)).mono fun y _ hy => ⟨by have := HL8.out; omega, by have := HL8.out; omega⟩)
      have HUU10 : Hid ((w9.setRow gR (RkQ.cs ⟨g1, QA1, qn1, qc1, QK1, qnk1, qck1⟩)).rowIs gU 37 256 (useds (upd u x'))) := Lib.hid (HUU9.out.of_block (setRow_other w9 _ gU _ (by have := HL8.out; omega)))
      have HB10 : Hid (Below w1.heap.size w1 (w9.setRow gR (RkQ.cs ⟨g1, QA1, qn1, qc1, QK1, qnk1, qck1⟩))) := Lib.hid (below_setRow HB9.out (by have := HL8.out; omega) _)
      generalize w9.setRow gR (RkQ.cs ⟨g1, QA1, qn1, qc1, QK1, qnk1, qck1⟩) = w10 at *
      clear hw9 t0 t1 t2 d0 d1 c4
      try simp only [Act.put]
      go_roundw
      case rel => exact ⟨i + 1, upd u x', rn, _, by omega, by go_num, HUS', HQ10, HI10, HUU10, HB10⟩
      case measure => simp [intOf]; omega
end Go.Proofs.YtkplkfokpniflaaDoor.Ra
