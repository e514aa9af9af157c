/- Walks: hasSpot, Leaves. -/
import Derived.Test.YtakglldffpnlaaaGreatDoorRtWalkD
import Derived.Test.YtakglldffpnlaaaGreatDoorRtOwn
namespace Go.Proofs.YtakglldffpnlaaaGreatDoor.Rt
set_option linter.all false
open Go.RowKit
open Wr (Txt Any New)

theorem rt_c (d : Nat) (o : Option (Nat × Nat)) (re im : Nat) (hd : d ≤ 16) (ho : Sp.Is re im o) (b : Bool) (hb : b = true ↔ ∃ l p, o = some (l, p) ∧ l ≤ d ∧ p < 2 ^ (d - l)) : Sp.RtC re im d b := by
  refine ⟨o, ho, ?_⟩
  rw [Bool.eq_iff_iff, hb]
  cases o with
  | none => unfold Sp.rightF; simp
  | some q =>
    obtain ⟨l, p⟩ := q
    unfold Sp.rightF
    rw [decide_eq_true_iff]
    have e : ∀ k : Nat, l ≤ d → ((d : Int) - (l : Int)).toNat = d - l := fun k h => by omega
    have e2 : ((2 ^ (d - l) : Nat) : Int) = (2 : Int) ^ (d - l) := by simp
    constructor
    · rintro ⟨h1, h2, h3, h4⟩
      have h5 : l ≤ d := by omega
      rw [e 0 h5] at h4
      exact ⟨l, p, rfl, h5, by omega⟩
    · rintro ⟨l', p', h, h5, h6⟩
      injection h with h
      injection h with ha hb'
      subst ha hb'
      exact ⟨by omega, by omega, by omega, by rw [e 0 h5]; omega⟩

set_option maxHeartbeats 1000000 in
theorem hasSpot_is (D : Int) (A : Option Addr) (n c : Nat) (ns : List Nd) (re im : Nat) (o : Option (Nat × Nat)) (b : Bool) (w : World) (hN : Nodes Any Any w A n c ns) (hT : Sp.Tab w) (ho : Sp.Is re im o)
    (hb : b = true ↔ ∃ d : Nat, D = d ∧ Right ns d ∧ ∃ l p, o = some (l, p) ∧ l ≤ d ∧ p < 2 ^ (d - l)) :
    Calls Tryz.prog 54 #[.agg #[.int .i64 D, .slice A n c], .complex .f64 re im] w fun e w' => e = .returned (.bool b) ∧ Below w.heap.size w w' := by
  obtain ⟨W0, hW0, g1, hB0⟩ := one_new w D A n c
  have B0 := Lib.hid hB0
  have G1 := Lib.hid g1
  have hN0 := hN.below hB0
  have hT0 := hT.below hB0
  obtain ⟨q0, q1⟩ := g1.cs
  have hlt := g1.lt
  clear hB0 g1 hN hT
  by_cases hr : RightT D ns
  · have C1 := Lib.hid (right_is D A n c ns true W0 hN0 hT0 (by simp [hr]))
    obtain ⟨d, rfl, hR⟩ := hr
    have C2 := Lib.hid (rt_c d o re im (by have := hR.deep; omega) ho b (hb.trans ⟨fun ⟨d', e, _, h⟩ => (show d' = d by omega) ▸ h, fun h => ⟨d, rfl, hR, h⟩⟩))
    clear hb hN0 hT0 hR ho
    go_enter Tryz.func54, Tryz.ntmps54
    go_wp2_with (first | (go_at_call 17; refine C1.out.mono ?_; rintro e' w2 ⟨rfl, hb2⟩; have HW2 := Lib.hid (B0.out.trans (hb2.mono B0.out.size)); obtain ⟨t0, t1⟩ := (G1.out.below hb2 hlt).cs; clear hb2) | (go_at_call 78; refine (Sp.right_c C2.out _).mono ?_; rintro e' w3 ⟨rfl, rfl⟩) | go_in)
    go_ret
    exact ⟨rfl, HW2.out⟩
  · have C1 := Lib.hid (right_is D A n c ns false W0 hN0 hT0 (by simp [hr]))
    obtain rfl : b = false := by rw [Bool.eq_false_iff]; intro h; obtain ⟨d, e, hR, _⟩ := hb.1 h; exact hr ⟨d, e, hR⟩
    clear hb hN0 hT0 hr ho
    go_enter Tryz.func54, Tryz.ntmps54
    go_wp2_with (first | (go_at_call 17; refine C1.out.mono ?_; rintro e' w2 ⟨rfl, hb2⟩; have HW2 := Lib.hid (B0.out.trans (hb2.mono B0.out.size)); obtain ⟨t0, t1⟩ := (G1.out.below hb2 hlt).cs; clear hb2) | go_in)
    go_ret
    exact ⟨rfl, HW2.out⟩

/-- the leaves, by the tree's own word -/
noncomputable def leavesT (D : Int) (ns : List Nd) : List Int := @ite _ (RightT D ns) (Classical.propDecidable _) (leavesF ns D.toNat) []
theorem leavesT_yes {ns : List Nd} {d : Nat} (h : Right ns d) : leavesT d ns = leavesF ns d := by unfold leavesT; rw [if_pos ⟨d, rfl, h⟩]; simp
theorem leavesT_no {D : Int} {ns : List Nd} (h : ¬ RightT D ns) : leavesT D ns = [] := by unfold leavesT; rw [if_neg h]
theorem leavesTo_len (ns : List Nd) : ∀ k, (leavesTo ns k).length ≤ k
  | 0 => by simp [leavesTo]
  | k + 1 => by
    have := leavesTo_len ns k
    rw [leavesTo, List.length_append]
    split <;> simp <;> omega

set_option maxHeartbeats 4000000 in
set_option maxRecDepth 100000 in
theorem leaves_any (D : Int) (A : Option Addr) (n c : Nat) (ns : List Nd) (w : World) (hN : Nodes Any Any w A n c ns) (hT : Sp.Tab w) :
    Calls Tryz.prog 26 #[.agg #[.int .i64 D, .slice A n c]] w (ToldI (leavesT D ns) w) := by
  obtain ⟨W0, hW0, g1, hB0⟩ := one_new w D A n c
  have B0 := Lib.hid hB0
  have G1 := Lib.hid g1
  have hN0 := hN.below hB0
  have hT0 := hT.below hB0
  obtain ⟨q0, q1⟩ := g1.cs
  have hlt := g1.lt
  clear hB0 g1 hN hT
  by_cases hr : RightT D ns
  · have C1 := Lib.hid (right_is D A n c ns true W0 hN0 hT0 (by simp [hr]))
    obtain ⟨d, rfl, hR⟩ := hr
    rw [leavesT_yes hR]
    have hd := hR.deep
    have HR := Lib.hid hR; have HN := Lib.hid hN0
    have HL : Hid (n = 2 ^ (d + 1) - 1) := Lib.hid (by rw [← hN0.len, hR.len])
    have C2 := Lib.hid (leaves_is d · (by omega))
    obtain ⟨m1, m2⟩ := pow_bd d (by omega)
    unfold leavesF
    have HD : Hid (d ≤ 16) := Lib.hid (by omega)
    have HP : Hid (∀ j : Nat, j < 2 ^ d → (There ns d j ↔ ¬ (nd ns (2 * j)).kind = 0)) := Lib.hid fun j hj => by
      unfold There
      rw [pow_eq, Int.toNat_natCast]
      constructor
      · intro h; exact h.2.2
      · intro h; exact ⟨by omega, by omega, h⟩
    obtain ⟨m, hm⟩ : ∃ m, 2 ^ d = m := ⟨_, rfl⟩
    rw [hm] at C2 m1 m2 HP ⊢
    clear hm hR hN0 hT0 hd
    go_enter Tryz.func26, Tryz.ntmps26
    go_wp2_with (first | (go_at_call 17; refine C1.out.mono ?_; rintro e' w2 ⟨rfl, hb2⟩; have HW2 := Lib.hid (B0.out.trans (hb2.mono B0.out.size)); have G2 := Lib.hid (G1.out.below hb2 hlt); have HN2 := Lib.hid (HN.out.below hb2); obtain ⟨t0, t1⟩ := (G1.out.below hb2 hlt).cs; clear hb2 q0 q1) | (go_at_call 31; refine (C2.out _).mono ?_; rintro e' w3 ⟨rfl, rfl⟩) | go_in)
    clear t0 t1
    have hlt2 := G2.out.lt
    go_loopw [3, 11] (fun v i W => ∃ (k q : Nat) (C : Option Addr) (cc : Nat), k ≤ m ∧ q ≤ k ∧ i = .int .i64 k ∧ v = .slice C q cc ∧ Hid (W.ownsRow w2.heap.size 3 1 (.slice C q cc) q (icells (leavesTo ns k))) ∧ Hid (Below w2.heap.size w2 W)) (fun v i _ => m - (intOf i).toNat)
    case atStart => exact ⟨0, 0, none, 0, by omega, by omega, rfl, rfl, Lib.hid (nil_ints _ _), Lib.hid (Below.refl _ _)⟩
    case round =>
      obtain ⟨k, q, C, cc, hk, hqk, rfl, rfl, HO, HW⟩ := hrel
      have HBw := Lib.hid (HW2.out.trans (HW.out.mono HW2.out.size))
      by_cases hkm : k < m
      · have yk : (k : Int) < (m : Int) := by omega
        obtain ⟨q0, q1⟩ := (G2.out.below HW.out hlt2).cs
        by_cases hkd : (nd ns (2 * k)).kind = 0
        · have C3 := Lib.hid (isThere_is d A n c ns k false wr HD.out HL.out (HN2.out.below HW.out) (by rw [HP.out k hkm]; simp [hkd]))
          have e1 : leavesTo ns (k + 1) = leavesTo ns k := by rw [leavesTo, if_pos hkd, List.append_nil]
          have E1 := Lib.hid e1
          clear hkd e1
          go_wp2_with (first | (go_at_call 38; refine C3.out.mono ?_; rintro e' w4 ⟨rfl, hb4⟩; have HW4 := Lib.hid (HW.out.trans (hb4.mono HW.out.size)); have HO4 := Lib.hid (own_belowG HO.out hb4); clear hb4) | go_in)
          go_roundw
          case rel => exact ⟨k + 1, q, C, cc, by omega, by omega, by go_num, rfl, Lib.hid (by rw [E1.out]; exact HO4.out), HW4⟩
          case measure => simp [intOf]; omega
        · have C3 := Lib.hid (isThere_is d A n c ns k true wr HD.out HL.out (HN2.out.below HW.out) (by rw [HP.out k hkm]; simp [hkd]))
          have e1 : leavesTo ns (k + 1) = leavesTo ns k ++ [(k : Int)] := by rw [leavesTo, if_neg hkd]
          have E1 := Lib.hid e1
          clear hkd e1
          go_wp2_with (first
            | (go_at_call 38; refine C3.out.mono ?_; rintro e' w4 ⟨rfl, hb4⟩; have HW4 := Lib.hid (HW.out.trans (hb4.mono HW.out.size)); have HO4 := Lib.hid (own_belowG HO.out hb4); clear hb4)
            | (at_builtin; refine wpList_append_ints rfl (.tmp 17) (.tmp 19) rfl w2.heap.size q 1 1 _ (leavesTo ns k) [(k : Int)] (some ⟨w4.heap.size, 0, none⟩) Any rfl rfl (HO4.out.alloc _) (one_int w4 k) (by omega) (by have := HW4.out.size; simp; omega) ?_)
            | go_in)
          intro v' w5 hown hgrow hat
          obtain ⟨C', c', rfl⟩ := own_sliceG hown
          have HB5 := Lib.hid (below_ownG (HW4.out.alloc (HW4.out.size) (.cells #[.int .i64 (k : Int)] 3)) (HO4.out.alloc _) (Nat.le_refl _) hgrow)
          have HO5 := Lib.hid hown
          clear hown hgrow hat
          go_wp2
          go_roundw
          case rel => exact ⟨k + 1, q + 1, C', c', by omega, by omega, by go_num, rfl, Lib.hid (by rw [E1.out]; exact HO5.out), HB5⟩
          case measure => simp [intOf]; omega
      · have yk : ¬ (k : Int) < (m : Int) := by omega
        obtain rfl : k = m := by omega
        go_wp2
        go_ret
        exact ⟨C, q, cc, rfl, (Ints.of_own HO.out).mono fun b hb => ⟨Nat.le_trans HW2.out.size hb.1, hb.2⟩, HBw.out⟩
  · have C1 := Lib.hid (right_is D A n c ns false W0 hN0 hT0 (by simp [hr]))
    rw [leavesT_no hr]
    clear hN0 hT0 hr
    go_enter Tryz.func26, Tryz.ntmps26
    go_wp2_with (first | (go_at_call 17; refine C1.out.mono ?_; rintro e' w2 ⟨rfl, hb2⟩; have HW2 := Lib.hid (B0.out.trans (hb2.mono B0.out.size)); clear hb2) | go_in)
    go_ret
    exact ⟨none, 0, 0, rfl, Ints.nil _ _, HW2.out⟩
end Go.Proofs.YtakglldffpnlaaaGreatDoor.Rt
