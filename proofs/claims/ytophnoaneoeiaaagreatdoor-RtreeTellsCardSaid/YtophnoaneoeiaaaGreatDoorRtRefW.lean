/- Walks: the document's Leaves, Resolve and Sum. Written by tools/mk_rttells.py. -/
import Derived.Test.YtophnoaneoeiaaaGreatDoorRtPre
import Derived.Test.YtophnoaneoeiaaaGreatDoorRtSame
import Derived.Test.YtophnoaneoeiaaaGreatDoorRtRefS
import Derived.Test.YtophnoaneoeiaaaGreatDoorShaM3
import Derived.Test.YtophnoaneoeiaaaGreatDoorRtRefU
import Derived.Test.YtophnoaneoeiaaaGreatDoorRtRefV
namespace Go.Proofs.YtophnoaneoeiaaaGreatDoor.Rt
set_option linter.all false
open Go.RowKit Wr


set_option maxHeartbeats 4000000 in
set_option maxRecDepth 100000 in
theorem refResolve_any (D : Int) (A : Option Addr) (n c : Nat) (ns : List Nd) (re im : Nat) (o : Option (Nat × Nat)) (w : World) (hN : Nodes Any Any w A n c ns) (ho : Sp.Is re im o) :
    Calls Tryz.prog 17 #[.agg #[.int .i64 D, .slice A n c], .complex .f64 re im] w (ToldI (resT D ns o) w) := by
  obtain ⟨W0, hW0, g1, hB0⟩ := one_new w D A n c
  have B0 := Lib.hid hB0; have G1 := Lib.hid g1
  have hN0 := hN.below hB0
  have HN := Lib.hid hN0
  obtain ⟨q0, q1⟩ := g1.cs
  have hlt := g1.lt
  clear hB0 g1 hN
  by_cases hr : RightT D ns
  case neg =>
    have C1 := Lib.hid (refRight_is D A n c ns false W0 hN0 (by simp [hr]))
    have C2 : Hid (Sp.RtC re im D (Sp.rightF D o)) := Lib.hid ⟨o, ho, rfl⟩
    rw [resT_no (fun ⟨d, e, h, _⟩ => hr ⟨d, e, h⟩)]
    generalize Sp.rightF D o = b2 at C2
    clear hN0 hr
    go_enter Tryz.func17, Tryz.ntmps17
    go_wp2_with (first | (go_at_call 14; refine C1.out.mono ?_; rintro e' w2 ⟨rfl, hb2⟩; have HW2 := Lib.hid (B0.out.trans (hb2.mono B0.out.size)); obtain ⟨t0, t1⟩ := (G1.out.below hb2 hlt).cs; clear hb2 q0 q1) | (go_at_call 43; refine (Sp.rright_c C2.out _).mono ?_; rintro e' w3 ⟨rfl, hb3⟩; have HW3 := Lib.hid (HW2.out.trans (hb3.mono HW2.out.size)); clear hb3) | go_in)
    go_ret
    exact ⟨none, 0, 0, rfl, Ints.nil _ _, HW3.out⟩
  have C1 := Lib.hid (refRight_is D A n c ns true W0 hN0 (by simp [hr]))
  obtain ⟨d, rfl, hR⟩ := hr
  have hd6 := hR.deep
  by_cases hs : ∃ l p, o = some (l, p) ∧ l ≤ d ∧ p < 2 ^ (d - l)
  case neg =>
    have C2 := Lib.hid (rt_c d o re im (by omega) ho false (by simp only [Bool.false_eq_true, false_iff]; exact hs))
    rw [resT_no (fun ⟨d', e, h, h2⟩ => hs (by obtain rfl : d = d' := (by omega); exact h2))]
    clear hN0 hR hs
    go_enter Tryz.func17, Tryz.ntmps17
    go_wp2_with (first | (go_at_call 14; refine C1.out.mono ?_; rintro e' w2 ⟨rfl, hb2⟩; have HW2 := Lib.hid (B0.out.trans (hb2.mono B0.out.size)); obtain ⟨t0, t1⟩ := (G1.out.below hb2 hlt).cs; clear hb2 q0 q1) | (go_at_call 43; refine (Sp.rright_c C2.out _).mono ?_; rintro e' w3 ⟨rfl, hb3⟩; have HW3 := Lib.hid (HW2.out.trans (hb3.mono HW2.out.size)); clear hb3) | go_in)
    go_ret
    exact ⟨none, 0, 0, rfl, Ints.nil _ _, HW3.out⟩
  have C2 := Lib.hid (rt_c d o re im (by omega) ho true (by simp only [true_iff]; exact hs))
  obtain ⟨l, p, rfl, hl, hp⟩ := hs
  have C3 := Lib.hid (fun W => refRes_is d A n c ns hR l p hl hp re im W ho)
  rw [resT_yes hR hl hp]
  clear hN0 hR hl hp
  go_enter Tryz.func17, Tryz.ntmps17
  go_wp2_with (first | (go_at_call 14; refine C1.out.mono ?_; rintro e' w2 ⟨rfl, hb2⟩; have HW2 := Lib.hid (B0.out.trans (hb2.mono B0.out.size)); have HV2 := Lib.hid hb2; obtain ⟨t0, t1⟩ := (G1.out.below hb2 hlt).cs; clear hb2 q0 q1) | (go_at_call 43; refine (Sp.rright_c C2.out _).mono ?_; rintro e' w3 ⟨rfl, hb3⟩; have HW3 := Lib.hid (HW2.out.trans (hb3.mono HW2.out.size)); have HV3 := Lib.hid (HV2.out.trans (hb3.mono HV2.out.size)); obtain ⟨t0', t1'⟩ := (G1.out.below HV3.out hlt).cs; clear hb3 t0 t1) | (go_at_call 44; refine (C3.out _ (HN.out.below HV3.out)).mono ?_; rintro e' w4 ⟨X, mx, cx, rfl, hX, hb4⟩; have HX4 := Lib.hid hX; have HB4 := Lib.hid hb4; clear hX hb4) | go_in)
  go_ret
  exact ⟨X, mx, cx, rfl, (Ints.of_own HX4.out).mono (fun b h => ⟨Nat.le_trans HW3.out.size h.1, h.2⟩), HW3.out.trans (HB4.out.mono HW3.out.size)⟩


set_option maxHeartbeats 4000000 in
set_option maxRecDepth 100000 in
theorem refSum_any (D : Int) (A : Option Addr) (n c : Nat) (ns : List Nd) (re im : Nat) (o : Option (Nat × Nat)) (w : World) (hN : Nodes Any Any w A n c ns) (ho : Sp.Is re im o) :
    Calls Tryz.prog 19 #[.agg #[.int .i64 D, .slice A n c], .complex .f64 re im] w (Wr.Told (sumT D ns o) w) := by
  obtain ⟨W0, hW0, g1, hB0⟩ := one_new w D A n c
  have B0 := Lib.hid hB0; have G1 := Lib.hid g1
  have hN0 := hN.below hB0
  have HN := Lib.hid hN0
  obtain ⟨q0, q1⟩ := g1.cs
  have hlt := g1.lt
  clear hB0 g1 hN
  by_cases hr : RightT D ns
  case neg =>
    have C1 := Lib.hid (refRight_is D A n c ns false W0 hN0 (by simp [hr]))
    have C2 : Hid (Sp.RtC re im D (Sp.rightF D o)) := Lib.hid ⟨o, ho, rfl⟩
    rw [sumT_no (fun ⟨d, e, h, _⟩ => hr ⟨d, e, h⟩)]
    generalize Sp.rightF D o = b2 at C2
    clear hN0 hr
    go_enter Tryz.func19, Tryz.ntmps19
    go_wp2_with (first | (go_at_call 14; refine C1.out.mono ?_; rintro e' w2 ⟨rfl, hb2⟩; have HW2 := Lib.hid (B0.out.trans (hb2.mono B0.out.size)); obtain ⟨t0, t1⟩ := (G1.out.below hb2 hlt).cs; clear hb2 q0 q1) | (go_at_call 43; refine (Sp.rright_c C2.out _).mono ?_; rintro e' w3 ⟨rfl, hb3⟩; have HW3 := Lib.hid (HW2.out.trans (hb3.mono HW2.out.size)); clear hb3) | go_in)
    go_ret
    exact ⟨none, 0, 0, rfl, Txt.nil _ _, HW3.out⟩
  have C1 := Lib.hid (refRight_is D A n c ns true W0 hN0 (by simp [hr]))
  obtain ⟨d, rfl, hR⟩ := hr
  have hd6 := hR.deep
  by_cases hs : ∃ l p, o = some (l, p) ∧ l ≤ d ∧ p < 2 ^ (d - l)
  case neg =>
    have C2 := Lib.hid (rt_c d o re im (by omega) ho false (by simp only [Bool.false_eq_true, false_iff]; exact hs))
    rw [sumT_no (fun ⟨d', e, h, h2⟩ => hs (by obtain rfl : d = d' := (by omega); exact h2))]
    clear hN0 hR hs
    go_enter Tryz.func19, Tryz.ntmps19
    go_wp2_with (first | (go_at_call 14; refine C1.out.mono ?_; rintro e' w2 ⟨rfl, hb2⟩; have HW2 := Lib.hid (B0.out.trans (hb2.mono B0.out.size)); obtain ⟨t0, t1⟩ := (G1.out.below hb2 hlt).cs; clear hb2 q0 q1) | (go_at_call 43; refine (Sp.rright_c C2.out _).mono ?_; rintro e' w3 ⟨rfl, hb3⟩; have HW3 := Lib.hid (HW2.out.trans (hb3.mono HW2.out.size)); clear hb3) | go_in)
    go_ret
    exact ⟨none, 0, 0, rfl, Txt.nil _ _, HW3.out⟩
  have C2 := Lib.hid (rt_c d o re im (by omega) ho true (by simp only [true_iff]; exact hs))
  obtain ⟨l, p, rfl, hl, hp⟩ := hs
  have C3 := Lib.hid (fun W => refSum_is d A n c ns hR l p hl hp re im W ho)
  rw [sumT_yes hR hl hp]
  clear hN0 hR hl hp
  go_enter Tryz.func19, Tryz.ntmps19
  go_wp2_with (first | (go_at_call 14; refine C1.out.mono ?_; rintro e' w2 ⟨rfl, hb2⟩; have HW2 := Lib.hid (B0.out.trans (hb2.mono B0.out.size)); have HV2 := Lib.hid hb2; obtain ⟨t0, t1⟩ := (G1.out.below hb2 hlt).cs; clear hb2 q0 q1) | (go_at_call 43; refine (Sp.rright_c C2.out _).mono ?_; rintro e' w3 ⟨rfl, hb3⟩; have HW3 := Lib.hid (HW2.out.trans (hb3.mono HW2.out.size)); have HV3 := Lib.hid (HV2.out.trans (hb3.mono HV2.out.size)); obtain ⟨t0', t1'⟩ := (G1.out.below HV3.out hlt).cs; clear hb3 t0 t1) | (go_at_call 46; refine (C3.out _ (HN.out.below HV3.out)).mono ?_; rintro e' w4 ⟨X, mx, cx, rfl, hX, hb4⟩; have HX4 := Lib.hid hX; have HB4 := Lib.hid hb4; clear hX hb4) | go_in)
  go_ret
  exact ⟨X, mx, cx, rfl, HX4.out.mono (fun b h => ⟨Nat.le_trans HW3.out.size h.1, h.2⟩), HW3.out.trans (HB4.out.mono HW3.out.size)⟩
end Go.Proofs.YtophnoaneoeiaaaGreatDoor.Rt
