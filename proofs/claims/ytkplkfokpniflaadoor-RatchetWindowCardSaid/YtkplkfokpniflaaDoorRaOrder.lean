/- RatchetOrder: the law's walk. Written by tools/mk_raorder.py. -/
import Derived.Test.YtkplkfokpniflaaDoorRaOrdP
namespace Go.Proofs.YtkplkfokpniflaaDoor.Ra
set_option linter.all false
open Go.RowKit
open Wr (Txt Any New bcells gt)

/-- the keys that are wanted, so many of them -/
def wants (b : List Nat) (i : Nat) (j : Nat) : Value := if j < i then .string (Wr.txt (KY b j)) else .string { data := #[] }
theorem wants_set {w : World} {b : List Nat} {g i : Nat} (h : w.rowIs g 40 8 (wants b i)) : (w.setCell ⟨g, i, none⟩ (.string (Wr.txt (KY b i)))).rowIs g 40 8 (wants b (i + 1)) :=
  (h.set i _).congr fun j hj => by
    unfold wants
    by_cases e : j = i
    · subst e; rw [if_pos rfl, if_pos (by omega)]
    · rw [if_neg e]
      by_cases h : j < i
      · rw [if_pos h, if_pos (by omega)]
      · rw [if_neg h, if_neg (by omega)]
def useds (u : Nat → Bool) (j : Nat) : Value := .bool (u j)
theorem useds_set {w : World} {u : Nat → Bool} {n t g i : Nat} (h : w.rowIs g t n (useds u)) : (w.setCell ⟨g, i, none⟩ (.bool true)).rowIs g t n (useds (upd u i)) :=
  (h.set i _).congr fun j hj => by
    unfold useds upd
    by_cases e : j = i
    · rw [if_pos e, if_pos e]
    · rw [if_neg e, if_neg e]
/-- elsewhere than in two blocks -/
def Not2 (a b : Nat) : Nat → Prop := fun y => y ≠ a ∧ y ≠ b

set_option maxHeartbeats 8000000 in
set_option maxRecDepth 100000 in
theorem ratchetOrder_walk (A : Option Addr) (b : List Nat) (n c : Nat) (cs : Array Value) (os : Nat → Nat) (w : World) (hT : Tabs w) (hA : Txt Any w A n c b) (hs : cs.size = 8) (hos : ∀ i, i < 8 → cs[i]? = some (.int .u8 (os i : Nat)) ∧ os i < 256) :
    Calls Tryd.prog 5 #[.slice A n c, .agg cs] w fun e w' => e = .returned (.bool true) ∧ Below w.heap.size w w' := by
  have HT := Lib.hid hT; have HA := Lib.hid hA
  have b1 := (Below.refl w.heap.size w).alloc (Nat.le_refl _) (.cells cs 39)
  have fo := World.rowIs_alloc w cs 39 (fun i => .int .u8 (os i : Nat)) (fun i hi => (hos i (by omega)).1)
  rw [hs] at fo
  obtain ⟨w1, hw1⟩ : ∃ W, w.alloc (.cells cs 39) = W := ⟨_, rfl⟩
  rw [hw1] at b1 fo
  have B1 := Lib.hid b1
  have FO1 := Lib.hid fo
  have HOL : Hid (∀ i, i < 8 → os i < 256) := Lib.hid fun i hi => (hos i hi).2
  clear b1 hT hA fo hos
  go_enter Tryd.func5, Tryd.ntmps5
  go_wp2_with fail
  try rw [hw1]
  refine (head_any w1 (HT.out.at B1.out)).mono ?_
  rintro e' w2 ⟨rfl, hb⟩
  have B2 := Lib.hid (B1.out.trans (hb.mono B1.out.size))
  have FO2 := Lib.hid (FO1.out.of_block (hb.block _ FO1.out.lt))
  clear hb
  by_cases h32 : n = 32
  case neg =>
    go_wp2
    go_ret
    exact ⟨rfl, B2.out⟩
  subst h32
  have HBL : Hid (b.length = 32) := Lib.hid HA.out.len
  have fw := World.rowIs_alloc w2 #[.string { data := #[] }, .string { data := #[] }, .string { data := #[] }, .string { data := #[] }, .string { data := #[] }, .string { data := #[] }, .string { data := #[] }, .string { data := #[] }] 40 (wants b 0) (fun i hi => by
    have hi : i < 8 := hi
    unfold wants; rw [if_neg (by omega)]
    match i, hi with | 0, _ | 1, _ | 2, _ | 3, _ | 4, _ | 5, _ | 6, _ | 7, _ => rfl)
  have b3 := (Below.refl w2.heap.size w2).alloc (Nat.le_refl _) (.cells #[.string { data := #[] }, .string { data := #[] }, .string { data := #[] }, .string { data := #[] }, .string { data := #[] }, .string { data := #[] }, .string { data := #[] }, .string { data := #[] }] 40)
  have e3 : (w2.alloc (.cells #[.string { data := #[] }, .string { data := #[] }, .string { data := #[] }, .string { data := #[] }, .string { data := #[] }, .string { data := #[] }, .string { data := #[] }, .string { data := #[] }] 40)).heap.size = w2.heap.size + 1 := by simp
  obtain ⟨w3, hw3⟩ : ∃ W, w2.alloc (.cells #[.string { data := #[] }, .string { data := #[] }, .string { data := #[] }, .string { data := #[] }, .string { data := #[] }, .string { data := #[] }, .string { data := #[] }, .string { data := #[] }] 40) = W := ⟨_, rfl⟩
  obtain ⟨gW, hgW⟩ : ∃ g, w2.heap.size = g := ⟨_, rfl⟩
  rw [hw3] at fw b3 e3
  rw [hgW] at fw
  have HWS0 : Hid (w3.rowIs gW 40 8 (wants b 0)) := Lib.hid fw
  have B3 := Lib.hid (B2.out.trans (b3.mono B2.out.size))
  have HB23 := Lib.hid b3; have HE3 := Lib.hid (And.intro e3 hgW)
  clear fw b3 e3
  go_wp2_with fail
  try rw [hw3]
  try rw [hgW]
  refine (new_is A b 32 c w3 (HA.out.below B3.out)).mono ?_
  rintro e' w4 ⟨⟨qg, QA, qn, qc, QK, qnk, qck⟩, rfl, hI, hb⟩
  dsimp only [RkQ.cs]
  clear hw1 hw3
  have ba := (Below.refl w4.heap.size w4).alloc (Nat.le_refl _) (.cells (RkQ.cs ⟨qg, QA, qn, qc, QK, qnk, qck⟩) 25)
  have hk := RkB.new ⟨qg, QA, qn, qc, QK, qnk, qck⟩ w4
  obtain ⟨w5, hww5⟩ : ∃ W, w4.alloc (.cells (RkQ.cs ⟨qg, QA, qn, qc, QK, qnk, qck⟩) 25) = W := ⟨_, rfl⟩
  obtain ⟨gA, hgA⟩ : ∃ g, w4.heap.size = g := ⟨_, rfl⟩
  rw [hww5] at ba hk
  rw [hgA] at hk
  dsimp only [RkQ.cs] at hww5
  have HGA : Hid (w4.heap.size = gA ∧ w3.heap.size ≤ w4.heap.size) := Lib.hid ⟨hgA, hb.size⟩
  have HI5 : Hid (RkIs (Not2 gW gA) w5 ⟨qg, QA, qn, qc, QK, qnk, qck⟩ ⟨((0 : Nat) : Int), sq b 0, []⟩) := Lib.hid (by
    rw [← st_new HBL.out]
    exact (hI.mono fun y hy h => ⟨by have := HE3.out; omega, by have := HE3.out; omega⟩).below ba)
  have HK5 : Hid (RkB ⟨qg, QA, qn, qc, QK, qnk, qck⟩ w5 gA) := Lib.hid hk
  have HB5 : Hid (Below w2.heap.size w2 w5) := Lib.hid (HB23.out.trans ((hb.trans (ba.mono hb.size)).mono HB23.out.size))
  have HWS5 : Hid (w5.rowIs gW 40 8 (wants b 0)) := Lib.hid ((HWS0.out.of_block (hb.block _ HWS0.out.lt)).of_block (ba.block _ (Nat.lt_of_lt_of_le HWS0.out.lt hb.size)))
  clear hI hb ba hk HWS0 hgW
  go_wp2_with fail
  try rw [hww5]
  try rw [hgA]
  clear hww5 hgA
  go_loopw [8] (fun v W => ∃ (i : Nat) (q : RkQ), i ≤ 8 ∧ v = .int .i64 i ∧ Hid (RkB q W gA) ∧ Hid (RkIs (Not2 gW gA) W q ⟨(i : Int), sq b i, []⟩) ∧ Hid (W.rowIs gW 40 8 (wants b i)) ∧ Hid (Below w2.heap.size w2 W)) (fun v _ => 8 - (intOf v).toNat)
  case atStart => exact ⟨0, _, by omega, rfl, HK5, HI5, HWS5, HB5⟩
  case round =>
    obtain ⟨i, ⟨g, QA, qn, qc, QK, qnk, qck⟩, hi, rfl, HK, HI, HWS, HB⟩ := hrel
    have HQG : Hid (g = (i : Int)) := Lib.hid HI.out.g
    obtain ⟨s0, s1, s2⟩ := HK.out.cs
    dsimp only at s0 s1 s2
    by_cases hi8 : i < 8
    case pos =>
      have CN := next_is ⟨g, QA, qn, qc, QK, qnk, qck⟩ ⟨(i : Int), sq b i, []⟩ wr (HT.out.at (B2.out.trans (HB.out.mono B2.out.size))) HI.out.any
      rw [sq_next HBL.out hi] at CN
      obtain ⟨kb, hkb⟩ : ∃ x, KY b i = x := ⟨_, rfl⟩
      obtain ⟨rn, hrn⟩ : ∃ x : Rk, ⟨((i + 1 : Nat) : Int), sq b (i + 1), []⟩ = x := ⟨_, rfl⟩
      rw [hkb, hrn] at CN
      have HKB := Lib.hid hkb; have HRN := Lib.hid hrn
      dsimp only [RkQ.cs] at CN
      have CNH := Lib.hid CN
      clear CN hkb hrn
      go_wp2_with fail
      refine CNH.out.mono ?_
      rintro e' w6 ⟨⟨g1, QA1, qn1, qc1, QK1, qnk1, qck1⟩, A6, n6, c6, rfl, hI, hX, hXI, hb⟩
      dsimp only [RkQ.cs]
      have ba := (Below.refl w6.heap.size w6).alloc (Nat.le_refl _) (.cells (RkQ.cs ⟨g1, QA1, qn1, qc1, QK1, qnk1, qck1⟩) 25)
      have hk := RkB.new ⟨g1, QA1, qn1, qc1, QK1, qnk1, qck1⟩ w6
      obtain ⟨w7, hww7⟩ : ∃ W, w6.alloc (.cells (RkQ.cs ⟨g1, QA1, qn1, qc1, QK1, qnk1, qck1⟩) 25) = W := ⟨_, rfl⟩
      obtain ⟨gB, hgB⟩ : ∃ g, w6.heap.size = g := ⟨_, rfl⟩
      rw [hww7] at ba hk
      rw [hgB] at hk
      dsimp only [RkQ.cs] at hww7
      have HGB : Hid (w6.heap.size = gB ∧ wr.heap.size ≤ w6.heap.size) := Lib.hid ⟨hgB, hb.size⟩
      have HL : Hid (gW < wr.heap.size ∧ gA < wr.heap.size ∧ gW < gA) := Lib.hid ⟨HWS.out.lt, HK.out.lt, by have h1 := HGA.out; have h2 := HE3.out; omega⟩
      have HI7 : Hid (RkIs (fun y => wr.heap.size ≤ y) w7 ⟨g1, QA1, qn1, qc1, QK1, qnk1, qck1⟩ rn) := Lib.hid (hI.below ba)
      have HK7 : Hid (RkB ⟨g1, QA1, qn1, qc1, QK1, qnk1, qck1⟩ w7 gB) := Lib.hid hk
      have HBB : Hid (Below wr.heap.size wr w7) := Lib.hid (hb.trans (ba.mono hb.size))
      have HX7 : Hid (Txt Any w7 A6 n6 c6 kb) := Lib.hid (hX.below ba)
      have HWS7 : Hid (w7.rowIs gW 40 8 (wants b i)) := Lib.hid (HWS.out.of_block (HBB.out.block _ HL.out.1))
      have HKA7 : Hid (RkB ⟨g, QA, qn, qc, QK, qnk, qck⟩ w7 gA) := Lib.hid (HK.out.below HBB.out HL.out.2.1)
      have cc := HX7.out.conv
      have d0 := HWS7.out.cell hi8
      have d1 := HWS7.out.frozen i
      obtain ⟨w8, hw8⟩ : ∃ W, w7.setCell ⟨gW, i, none⟩ (.string (Wr.txt kb)) = W := ⟨_, rfl⟩
      have hg8 : w7.grownBy w8 (some gW) := by rw [← hw8]; exact grown_set (World.grownBy.refl _ _) i _
      have HWS8 : Hid (w8.rowIs gW 40 8 (wants b (i + 1))) := Lib.hid (by rw [← hw8, ← HKB.out]; exact wants_set HWS7.out)
      have HB8 : Hid (w7.grownBy w8 (some gW)) := Lib.hid hg8
      have HI8 : Hid (RkIs (fun y => wr.heap.size ≤ y) w8 ⟨g1, QA1, qn1, qc1, QK1, qnk1, qck1⟩ rn) := Lib.hid (HI7.out.keep hg8.size fun y hy hlt => hg8.block y hlt (by intro e; injection e with e; have := HL.out; omega))
      have HK8 : Hid (RkB ⟨g1, QA1, qn1, qc1, QK1, qnk1, qck1⟩ w8 gB) := Lib.hid ((hg8.block _ HK7.out.lt (by intro e; injection e with e; have := HL.out; have := HGB.out; omega)).trans HK7.out)
      have HKA8 : Hid (RkB ⟨g, QA, qn, qc, QK, qnk, qck⟩ w8 gA) := Lib.hid ((hg8.block _ HKA7.out.lt (by intro e; injection e with e; have := HL.out; omega)).trans HKA7.out)
      obtain ⟨t0, t1, t2⟩ := HK8.out.cs
      dsimp only at t0 t1 t2
      have yg : ((i : Int) != (i : Int)) = false := by simp
      clear hI hX hXI hb ba hk hg8 s0 s1 s2
      go_wp2_with (refine wpList_store_row rfl 25 (.tmp 7) (.tmp 49) rfl gA (RkQ.cs ⟨g1, QA1, qn1, qc1, QK1, qnk1, qck1⟩) rfl rfl 25 (RkQ.cs ⟨g, QA, qn, qc, QK, qnk, qck⟩) HKA8.out (rk_sized _) rfl (rk_all _) ?_)
      have HW : Hid (wr.heap.size ≤ w7.heap.size) := Lib.hid HBB.out.size
      have HQ9 : Hid (RkB ⟨g1, QA1, qn1, qc1, QK1, qnk1, qck1⟩ (w8.setRow gA (RkQ.cs ⟨g1, QA1, qn1, qc1, QK1, qnk1, qck1⟩)) gA) := Lib.hid (setRow_heap w8 gA _ _ 25 _ HKA8.out)
      have HI9 : Hid (RkIs (Not2 gW gA) (w8.setRow gA (RkQ.cs ⟨g1, QA1, qn1, qc1, QK1, qnk1, qck1⟩)) ⟨g1, QA1, qn1, qc1, QK1, qnk1, qck1⟩ ⟨((i + 1 : Nat) : Int), sq b (i + 1), []⟩) := Lib.hid (by
        rw [HRN.out]
        exact (HI8.out.keep (by simp [World.setRow]) fun y hy _ => setRow_other w8 _ y _ (by have := HL.out; omega)).mono fun y _ hy => ⟨by have := HL.out; omega, by have := HL.out; omega⟩)
      have HWS9 : Hid ((w8.setRow gA (RkQ.cs ⟨g1, QA1, qn1, qc1, QK1, qnk1, qck1⟩)).rowIs gW 40 8 (wants b (i + 1))) := Lib.hid (HWS8.out.of_block (setRow_other w8 _ gW _ (by have := HL.out; omega)))
      have HB9 : Hid (Below w2.heap.size w2 (w8.setRow gA (RkQ.cs ⟨g1, QA1, qn1, qc1, QK1, qnk1, qck1⟩))) := Lib.hid (below_setRow ((HB.out.trans (HBB.out.mono HB.out.size)).trans (below_grown HB8.out (by have := HE3.out; omega) (Nat.le_trans HB.out.size HBB.out.size))) (by have := HL.out; have := HE3.out; omega) _)
      generalize w8.setRow gA (RkQ.cs ⟨g1, QA1, qn1, qc1, QK1, qnk1, qck1⟩) = w9 at *
      clear hw8 t0 t1 t2 cc d0 d1
      try simp only [Act.put]
      go_roundw
      case rel => exact ⟨i + 1, _, by omega, by go_num, HQ9, HI9, HWS9, HB9⟩
      case measure => simp [intOf]; omega
    have e8 : i = 8 := by omega
    rw [e8] at HWS
    have HFO : Hid (wr.rowIs w.heap.size 39 8 (fun i => .int .u8 (os i : Nat))) := Lib.hid (FO2.out.of_block (HB.out.block _ FO2.out.lt))
    have HBw : Hid (Below w.heap.size w wr) := Lib.hid (B2.out.trans (HB.out.mono B2.out.size))
    clear s0 s1 s2 hi HK HI HB HQG e8
    go_wp2_with fail
    refine (new_is A b 32 c wr (HA.out.below HBw.out)).mono ?_
    rintro e' v1 ⟨⟨qg, QA, qn, qc, QK, qnk, qck⟩, rfl, hI, hb⟩
    dsimp only [RkQ.cs]
    have ba := (Below.refl v1.heap.size v1).alloc (Nat.le_refl _) (.cells (RkQ.cs ⟨qg, QA, qn, qc, QK, qnk, qck⟩) 25)
    have hk := RkB.new ⟨qg, QA, qn, qc, QK, qnk, qck⟩ v1
    obtain ⟨v2, hwv2⟩ : ∃ W, v1.alloc (.cells (RkQ.cs ⟨qg, QA, qn, qc, QK, qnk, qck⟩) 25) = W := ⟨_, rfl⟩
    obtain ⟨gR, hgR⟩ : ∃ g, v1.heap.size = g := ⟨_, rfl⟩
    rw [hwv2] at ba hk
    rw [hgR] at hk
    dsimp only [RkQ.cs] at hwv2
    have fu := World.rowIs_alloc v2 #[.bool false, .bool false, .bool false, .bool false, .bool false, .bool false, .bool false, .bool false] 41 (useds fun _ => false) (fun i hi => by
      have hi : i < 8 := hi
      match i, hi with | 0, _ | 1, _ | 2, _ | 3, _ | 4, _ | 5, _ | 6, _ | 7, _ => rfl)
    have b3 := (Below.refl v2.heap.size v2).alloc (Nat.le_refl _) (.cells #[.bool false, .bool false, .bool false, .bool false, .bool false, .bool false, .bool false, .bool false] 41)
    obtain ⟨v3, hv3⟩ : ∃ W, v2.alloc (.cells #[.bool false, .bool false, .bool false, .bool false, .bool false, .bool false, .bool false, .bool false] 41) = W := ⟨_, rfl⟩
    obtain ⟨gU, hgU⟩ : ∃ g, v2.heap.size = g := ⟨_, rfl⟩
    rw [hv3] at fu b3
    rw [hgU] at fu
    have HL : Hid (wr.heap.size ≤ gR ∧ gR < gU ∧ w.heap.size < wr.heap.size ∧ gW < wr.heap.size) := Lib.hid ⟨by have := hb.size; omega, by have := hk; have := hk.lt; omega, HFO.out.lt, HWS.out.lt⟩
    have HB3 : Hid (Below wr.heap.size wr v3) := Lib.hid (hb.trans ((ba.trans (b3.mono ba.size)).mono hb.size))
    have HI3 : Hid (RkIs (Not2 gR gU) v3 ⟨qg, QA, qn, qc, QK, qnk, qck⟩ (stR b (fun _ => false) 0)) := Lib.hid (by
      rw [← st_new' HBL.out]
      exact ((hI.mono fun y hy h => ⟨by omega, by have := HL.out; omega⟩).below ba).below b3)
    have HK3 : Hid (RkB ⟨qg, QA, qn, qc, QK, qnk, qck⟩ v3 gR) := Lib.hid (hk.below b3 hk.lt)
    have HU3 : Hid (v3.rowIs gU 41 8 (useds fun _ => false)) := Lib.hid fu
    clear hI hb ba hk b3 fu
    go_wp2_with fail
    try rw [hwv2]
    try rw [hv3]
    try rw [hgR]
    try rw [hgU]
    clear hwv2 hv3 hgR hgU
    obtain ⟨v0, hv0⟩ : ∃ W, W = wr := ⟨_, rfl⟩
    subst hv0
    go_loopw [15] (fun v W => ∃ (i m : Nat) (u : Nat → Bool) (q : RkQ), i ≤ 8 ∧ v = .int .i64 i ∧ m ≤ 8 ∧ Hid (∀ j, m ≤ j → u j = false) ∧ Hid (RkB q W gR) ∧ Hid (RkIs (Not2 gR gU) W q (stR b u m)) ∧ Hid (W.rowIs gU 41 8 (useds u)) ∧ Hid (Below v0.heap.size v0 W)) (fun v _ => 8 - (intOf v).toNat)
    case atStart => exact ⟨0, 0, _, _, by omega, rfl, by omega, Lib.hid fun _ _ => rfl, HK3, HI3, HU3, HB3⟩
    case round =>
      obtain ⟨i, m, u, ⟨g0, QA, qn, qc, QK, qnk, qck⟩, hi, rfl, hm8, HU, HK, HI, HUS, HB⟩ := hrel
      by_cases hi8 : i < 8
      case neg =>
        go_wp2
        go_ret
        exact ⟨rfl, HBw.out.trans (HB.out.mono HBw.out.size)⟩
      obtain ⟨s0, s1, s2⟩ := HK.out.cs
      dsimp only at s0 s1 s2
      have HFOr : Hid (wr.rowIs w.heap.size 39 8 (fun i => .int .u8 (os i : Nat))) := Lib.hid (HFO.out.of_block (HB.out.block _ HL.out.2.2.1))
      have c0 := HFOr.out.cell hi8
      have hx := HOL.out i hi8
      obtain ⟨x, hxe⟩ : ∃ x, os i = x := ⟨_, rfl⟩
      rw [hxe] at c0 hx
      obtain ⟨g, hg⟩ : ∃ g : Nat, x % 8 = g := ⟨_, rfl⟩
      have hg8 : g < 8 := by omega
      have CT := take_is ⟨g0, QA, qn, qc, QK, qnk, qck⟩ (stR b u m) (g : Int) wr (HT.out.at (HBw.out.trans (HB.out.mono HBw.out.size))) HI.out.any (by omega)
      dsimp only [RkQ.cs] at CT
      have hgi : (x : Int) % 8 = (g : Int) := by omega
      have HLr : Hid (v0.heap.size ≤ wr.heap.size ∧ gR < wr.heap.size ∧ gU < wr.heap.size) := Lib.hid ⟨HB.out.size, HK.out.lt, HUS.out.lt⟩
      cases hug : u g with
      | true =>
        rw [st_used HBL.out hm8 HU.out hug] at CT
        have CTH := Lib.hid CT
        clear CT
        go_wp2_with fail
        try rw [hgi]
        refine CTH.out.mono ?_
        rintro e' w12 ⟨⟨g1, QA1, qn1, qc1, QK1, qnk1, qck1⟩, A6, n6, c6, rfl, hI, hX, hXI, hb⟩
        dsimp only [RkQ.cs]
        have ba := (Below.refl w12.heap.size w12).alloc (Nat.le_refl _) (.cells (RkQ.cs ⟨g1, QA1, qn1, qc1, QK1, qnk1, qck1⟩) 25)
        have hk := RkB.new ⟨g1, QA1, qn1, qc1, QK1, qnk1, qck1⟩ w12
        obtain ⟨w13, hww13⟩ : ∃ W, w12.alloc (.cells (RkQ.cs ⟨g1, QA1, qn1, qc1, QK1, qnk1, qck1⟩) 25) = W := ⟨_, rfl⟩
        obtain ⟨gS, hgS⟩ : ∃ g, w12.heap.size = g := ⟨_, rfl⟩
        rw [hww13] at ba hk
        rw [hgS] at hk
        dsimp only [RkQ.cs] at hww13
        have HBB : Hid (Below wr.heap.size wr w13) := Lib.hid (hb.trans (ba.mono hb.size))
        have HUS1 : Hid (w13.rowIs gU 41 8 (useds u)) := Lib.hid (HUS.out.of_block (HBB.out.block _ HLr.out.2.2))
        have cu := HUS1.out.cell hg8
        unfold useds at cu
        rw [hug] at cu
        clear hI hX hXI hb ba hk s0 s1 s2 c0
        go_wp2
        go_roundw
        case rel => exact ⟨i + 1, m, u, _, by omega, by go_num, hm8, HU, Lib.hid (HK.out.below HBB.out HLr.out.2.1), Lib.hid (HI.out.below HBB.out), HUS1, Lib.hid (HB.out.trans (HBB.out.mono HB.out.size))⟩
        case measure => simp [intOf]; omega
      | false =>
      obtain ⟨m', hm', hu', ht⟩ := st_take HBL.out hm8 hg8 HU.out hug
      rw [ht] at CT
      obtain ⟨rn, hrn⟩ : ∃ x, stR b (upd u g) m' = x := ⟨_, rfl⟩
      obtain ⟨kb, hkb⟩ : ∃ x, KY b g = x := ⟨_, rfl⟩
      rw [hrn, hkb] at CT
      have CTH := Lib.hid CT
      have HRN := Lib.hid hrn; have HKB := Lib.hid hkb; have HU' := Lib.hid hu'
      clear CT hrn hkb ht hu'
      go_wp2_with fail
      try rw [hgi]
      refine CTH.out.mono ?_
      rintro e' w12 ⟨⟨g1, QA1, qn1, qc1, QK1, qnk1, qck1⟩, A6, n6, c6, rfl, hI, hX, hXI, hb⟩
      dsimp only [RkQ.cs]
      have ba := (Below.refl w12.heap.size w12).alloc (Nat.le_refl _) (.cells (RkQ.cs ⟨g1, QA1, qn1, qc1, QK1, qnk1, qck1⟩) 25)
      have hk := RkB.new ⟨g1, QA1, qn1, qc1, QK1, qnk1, qck1⟩ w12
      obtain ⟨w13, hww13⟩ : ∃ W, w12.alloc (.cells (RkQ.cs ⟨g1, QA1, qn1, qc1, QK1, qnk1, qck1⟩) 25) = W := ⟨_, rfl⟩
      obtain ⟨gS, hgS⟩ : ∃ g, w12.heap.size = g := ⟨_, rfl⟩
      rw [hww13] at ba hk
      rw [hgS] at hk
      dsimp only [RkQ.cs] at hww13
      have HBB : Hid (Below wr.heap.size wr w13) := Lib.hid (hb.trans (ba.mono hb.size))
      have HGS : Hid (wr.heap.size ≤ gS) := Lib.hid (by have := hb.size; omega)
      have HI13 : Hid (RkIs (fun y => wr.heap.size ≤ y ∧ y ≠ gS) w13 ⟨g1, QA1, qn1, qc1, QK1, qnk1, qck1⟩ rn) := Lib.hid ((hI.mono fun y hy h => ⟨h, by omega⟩).below ba)
      have HK13 : Hid (RkB ⟨g1, QA1, qn1, qc1, QK1, qnk1, qck1⟩ w13 gS) := Lib.hid hk
      have HX : Hid (Txt Any w13 A6 n6 c6 kb) := Lib.hid (hX.below ba)
      have HUS1 : Hid (w13.rowIs gU 41 8 (useds u)) := Lib.hid (HUS.out.of_block (HBB.out.block _ HLr.out.2.2))
      have HWS1 : Hid (w13.rowIs gW 40 8 (wants b 8)) := Lib.hid ((HWS.out.of_block (HB.out.block _ HL.out.2.2.2)).of_block (HBB.out.block _ (by have := HL.out; have := HLr.out; omega)))
      have cu := HUS1.out.cell hg8
      unfold useds at cu
      rw [hug] at cu
      clear hI hX hXI hb ba hk s0 s1 s2 c0
      go_wp2
      have HXd : Hid (Txt Any w13.drew A6 n6 c6 kb) := Lib.hid HX.out.drew
      have HWSd : Hid (w13.drew.rowIs gW 40 8 (wants b 8)) := HWS1
      have HUSd : Hid (w13.drew.rowIs gU 41 8 (useds u)) := HUS1
      have HKd : Hid (RkB ⟨g1, QA1, qn1, qc1, QK1, qnk1, qck1⟩ w13.drew gS) := HK13
      have HId : Hid (RkIs (fun y => wr.heap.size ≤ y ∧ y ≠ gS) w13.drew ⟨g1, QA1, qn1, qc1, QK1, qnk1, qck1⟩ rn) := Lib.hid HI13.out.drew
      have HBd : Hid (Below wr.heap.size wr w13.drew) := Lib.hid HBB.out.drew
      clear cu HX HWS1 HUS1 HK13 HI13 HBB hgS hww13
      try simp only [Act.put]
      refine Wr.region_calm ?_
      refine wp_region_any (by kernel_rfl) ?_
      change wpAny _ _ _ _ _ _ _ (World.drew w13)
      generalize World.drew w13 = wd at *
      have HSwd : Hid (Below wd.heap.size wd wd) := Lib.hid (Below.refl _ _)
      refine wpAny_of_held (S := fun W => Below wd.heap.size wd W) _ _ _ _ ?_
      refine wpAnyH_take (i := 0) (v := ?ve1) rfl (by kernel_rfl) (by kernel_rfl) (by kernel_rfl) (fun _ _ _ h => h) (Or.inl ⟨by rfl, ?ye1⟩) HSwd.out ?re1
      case ye1 => (intro w' hSw; clear hSw; go_simp; try with_reducible rfl)
      simp only [List.getElem_toArray, List.getElem_cons_succ, List.getElem_cons_zero, Act.put, List.setIfInBounds_toArray, List.set_cons_zero, List.set_cons_succ]
      refine wpAnyH_take (i := 1) (v := ?ve2) rfl (by kernel_rfl) (by kernel_rfl) (by kernel_rfl) (fun _ _ _ h => h) (Or.inl ⟨by rfl, ?ye2⟩) HSwd.out ?re2
      case ye2 => (intro w' hSw; clear hSw; go_simp; try with_reducible rfl)
      simp only [List.getElem_toArray, List.getElem_cons_succ, List.getElem_cons_zero, Act.put, List.setIfInBounds_toArray, List.set_cons_zero, List.set_cons_succ]
      refine wpAnyH_take (i := 2) (v := ?ve3) rfl (by kernel_rfl) (by kernel_rfl) (by kernel_rfl) (fun _ _ _ h => h) (Or.inl ⟨by rfl, ?ye3⟩) HSwd.out ?re3
      case ye3 => (intro w' hSw; clear hSw; go_simp; try with_reducible rfl)
      simp only [List.getElem_toArray, List.getElem_cons_succ, List.getElem_cons_zero, Act.put, List.setIfInBounds_toArray, List.set_cons_zero, List.set_cons_succ]
      refine wpAnyH_take (i := 3) (v := ?ve4) rfl (by kernel_rfl) (by kernel_rfl) (by kernel_rfl) (fun _ _ _ h => h) (Or.inl ⟨by rfl, ?ye4⟩) HSwd.out ?re4
      case ye4 => (intro w' hSw; clear hSw; go_simp; try with_reducible rfl)
      simp only [List.getElem_toArray, List.getElem_cons_succ, List.getElem_cons_zero, Act.put, List.setIfInBounds_toArray, List.set_cons_zero, List.set_cons_succ]
      refine wpAnyH_take (i := 4) (v := ?ve5) rfl (by kernel_rfl) (by kernel_rfl) (by kernel_rfl) (fun _ _ _ h => h) (Or.inl ⟨by rfl, ?ye5⟩) HSwd.out ?re5
      case ye5 => (intro w' hSw; have hq_wd : Below wd.heap.size wd w' := hSw; have hq := hq_wd; have cc := (HXd.out.below hq_wd).conv; clear hSw; try clear hq hq_wd; go_simp; try with_reducible rfl)
      simp only [List.getElem_toArray, List.getElem_cons_succ, List.getElem_cons_zero, Act.put, List.setIfInBounds_toArray, List.set_cons_zero, List.set_cons_succ]
      refine wpAnyH_take (i := 5) (v := ?ve6) rfl (by kernel_rfl) (by kernel_rfl) (by kernel_rfl) (fun _ _ _ h => h) (Or.inl ⟨by rfl, ?ye6⟩) HSwd.out ?re6
      case ye6 => (intro w' hSw; clear hSw; go_simp; try with_reducible rfl)
      simp only [List.getElem_toArray, List.getElem_cons_succ, List.getElem_cons_zero, Act.put, List.setIfInBounds_toArray, List.set_cons_zero, List.set_cons_succ]
      refine wpAnyH_take (i := 6) (v := ?ve7) rfl (by kernel_rfl) (by kernel_rfl) (by kernel_rfl) (fun _ _ _ h => h) (Or.inl ⟨by rfl, ?ye7⟩) HSwd.out ?re7
      case ye7 => (intro w' hSw; have hq_wd : Below wd.heap.size wd w' := hSw; have hq := hq_wd; have hgI : (g : Int) < 8 := (by omega); clear hSw; try clear hq hq_wd; go_simp; try with_reducible rfl)
      simp only [List.getElem_toArray, List.getElem_cons_succ, List.getElem_cons_zero, Act.put, List.setIfInBounds_toArray, List.set_cons_zero, List.set_cons_succ]
      refine wpAnyH_take (i := 7) (v := ?ve8) rfl (by kernel_rfl) (by kernel_rfl) (by kernel_rfl) (fun _ _ _ h => h) (Or.inl ⟨by rfl, ?ye8⟩) HSwd.out ?re8
      case ye8 => (intro w' hSw; have hq_wd : Below wd.heap.size wd w' := hSw; have hq := hq_wd; have cw := (HWSd.out.of_block (hq_wd.block _ HWSd.out.lt)).cell hg8; unfold wants at cw; rw [if_pos hg8, HKB.out] at cw; clear hSw; try clear hq hq_wd; go_simp; try with_reducible rfl)
      simp only [List.getElem_toArray, List.getElem_cons_succ, List.getElem_cons_zero, Act.put, List.setIfInBounds_toArray, List.set_cons_zero, List.set_cons_succ]
      refine wpAnyH_take (i := 8) (v := ?ve9) rfl (by kernel_rfl) (by kernel_rfl) (by kernel_rfl) (fun _ _ _ h => h) (Or.inl ⟨by rfl, ?ye9⟩) HSwd.out ?re9
      case ye9 => (intro w' hSw; clear hSw; go_simp; try with_reducible rfl)
      simp only [List.getElem_toArray, List.getElem_cons_succ, List.getElem_cons_zero, Act.put, List.setIfInBounds_toArray, List.set_cons_zero, List.set_cons_succ]
      refine wpAnyH_take (i := 9) (v := ?ve10) rfl (by kernel_rfl) (by kernel_rfl) (by kernel_rfl) (fun _ _ _ h => h) (Or.inl ⟨by rfl, ?ye10⟩) HSwd.out ?re10
      case ye10 => (intro w' hSw; clear hSw; go_simp; try with_reducible rfl)
      simp only [List.getElem_toArray, List.getElem_cons_succ, List.getElem_cons_zero, Act.put, List.setIfInBounds_toArray, List.set_cons_zero, List.set_cons_succ]
      refine wpAnyH_done (by kernel_rfl) ?_ _
      change Exit.then _ _ Exit.normal _ _
      have d0 := HUSd.out.cell hg8
      have d1 := HUSd.out.frozen g
      obtain ⟨w14, hw14⟩ : ∃ W, wd.setCell ⟨gU, g, none⟩ (.bool true) = W := ⟨_, rfl⟩
      have hg14 : wd.grownBy w14 (some gU) := by rw [← hw14]; exact grown_set (World.grownBy.refl _ _) g _
      have HLd : Hid (wr.heap.size ≤ wd.heap.size ∧ gU ≠ gR ∧ gU < wr.heap.size ∧ gR < wr.heap.size ∧ v0.heap.size ≤ gR ∧ v0.heap.size ≤ gU ∧ wr.heap.size ≤ gS) := Lib.hid ⟨HBd.out.size, by have := HL.out; omega, HLr.out.2.2, HLr.out.2.1, HL.out.1, by have := HL.out; omega, HGS.out⟩
      have HUS14 : Hid (w14.rowIs gU 41 8 (useds (upd u g))) := Lib.hid (by rw [← hw14]; exact useds_set HUSd.out)
      have HG14 := Lib.hid hg14
      have HK14 : Hid (RkB ⟨g1, QA1, qn1, qc1, QK1, qnk1, qck1⟩ w14 gS) := Lib.hid ((hg14.block _ HKd.out.lt (by intro e; injection e with e; have := HLd.out; omega)).trans HKd.out)
      have HKR14 : Hid (RkB ⟨g0, QA, qn, qc, QK, qnk, qck⟩ w14 gR) := Lib.hid ((hg14.block _ (by have := HLd.out; omega) (by intro e; injection e with e; have := HLd.out; omega)).trans (HK.out.below HBd.out HLr.out.2.1))
      have HI14 : Hid (RkIs (fun y => wr.heap.size ≤ y ∧ y ≠ gS) w14 ⟨g1, QA1, qn1, qc1, QK1, qnk1, qck1⟩ rn) := Lib.hid (HId.out.keep hg14.size fun y hy hlt => hg14.block y hlt (by intro e; injection e with e; have := HLd.out; omega))
      obtain ⟨t0, t1, t2⟩ := HK14.out.cs
      dsimp only at t0 t1 t2
      clear hg14
      go_wp2_with (refine wpList_store_row rfl 25 (.tmp 13) (.tmp 85) rfl gR (RkQ.cs ⟨g1, QA1, qn1, qc1, QK1, qnk1, qck1⟩) rfl rfl 25 (RkQ.cs ⟨g0, QA, qn, qc, QK, qnk, qck⟩) HKR14.out (rk_sized _) rfl (rk_all _) ?_)
      have HQ15 : Hid (RkB ⟨g1, QA1, qn1, qc1, QK1, qnk1, qck1⟩ (w14.setRow gR (RkQ.cs ⟨g1, QA1, qn1, qc1, QK1, qnk1, qck1⟩)) gR) := Lib.hid (setRow_heap w14 gR _ _ 25 _ HKR14.out)
      have HI15 : Hid (RkIs (Not2 gR gU) (w14.setRow gR (RkQ.cs ⟨g1, QA1, qn1, qc1, QK1, qnk1, qck1⟩)) ⟨g1, QA1, qn1, qc1, QK1, qnk1, qck1⟩ (stR b (upd u g) m')) := Lib.hid (by
        rw [HRN.out]
        exact (HI14.out.keep (by simp [World.setRow]) fun y hy _ => setRow_other w14 _ y _ (by have := HLd.out; omega)).mono fun y _ hy => ⟨by have := HLd.out; omega, by have := HLd.out; omega⟩)
      have HUS15 : Hid ((w14.setRow gR (RkQ.cs ⟨g1, QA1, qn1, qc1, QK1, qnk1, qck1⟩)).rowIs gU 41 8 (useds (upd u g))) := Lib.hid (HUS14.out.of_block (setRow_other w14 _ gU _ (by have := HLd.out; omega)))
      have HB15 : Hid (Below v0.heap.size v0 (w14.setRow gR (RkQ.cs ⟨g1, QA1, qn1, qc1, QK1, qnk1, qck1⟩))) := Lib.hid (below_setRow ((HB.out.trans (HBd.out.mono HB.out.size)).trans (below_grown HG14.out (by have := HLd.out; omega) (Nat.le_trans HB.out.size HBd.out.size))) (by have := HLd.out; omega) _)
      generalize w14.setRow gR (RkQ.cs ⟨g1, QA1, qn1, qc1, QK1, qnk1, qck1⟩) = w15 at *
      clear hw14 t0 t1 t2 d0 d1
      try simp only [Act.put]
      go_roundw
      case rel => exact ⟨i + 1, m', upd u g, _, by omega, by go_num, hm', HU', HQ15, HI15, HUS15, HB15⟩
      case measure => simp [intOf]; omega
end Go.Proofs.YtkplkfokpniflaaDoor.Ra
