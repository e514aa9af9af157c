/- Walks: the laws' Great. -/
import Derived.Test.YtakglldffpnlaaaGreatDoorRtHeadX
namespace Go.Proofs.YtakglldffpnlaaaGreatDoor.Rt
set_option linter.all false
open Go.RowKit
open Wr (Txt Any New)

/-- either answer -/
def EitherB (e : Ending) : Prop := ∃ b : Bool, e = .returned (.bool b)
theorem least (n : Nat) : ∃ m : Nat, (if (400000 : Int) < (n : Int) then (400000 : Int) else (n : Int)) = (m : Int) ∧ m ≤ 400000 := by
  by_cases h : (400000 : Int) < (n : Int)
  · exact ⟨400000, by rw [if_pos h]; rfl, Nat.le_refl _⟩
  · exact ⟨n, by rw [if_neg h], by omega⟩

set_option maxHeartbeats 1000000 in
set_option maxRecDepth 100000 in
theorem great_any (D : Int) (A : Option Addr) (n c : Nat) (ns : List Nd) (w : World) (hN : Nodes Any Any w A n c ns) :
    Calls Tryz.prog 7 #[.agg #[.int .i64 D, .slice A n c]] w fun e w' => EitherB e ∧ Below w.heap.size w w' := by
  obtain ⟨W0, hW0, g1, hB0⟩ := one_new w D A n c
  have B0 := Lib.hid hB0; have G1 := Lib.hid g1; have HN := Lib.hid (hN.below hB0)
  have hlt := g1.lt
  have hn63 : n ≤ 9223372036854775807 := by have h1 := hN.2.1; have h2 := hN.2.2.1; omega
  clear hB0 g1 hN
  go_enter Tryz.func7, Tryz.ntmps7
  go_wp2_with (fail)
  go_loopw [3, 4] (fun v i W => ∃ (k m : Nat), k ≤ n ∧ m ≤ 2400010 ∧ i = .int .i64 k ∧ v = .int .i64 m ∧ Hid (Below W0.heap.size W0 W)) (fun v i _ => n - (intOf i).toNat)
  case atStart => exact ⟨0, 0, by omega, by omega, rfl, rfl, Lib.hid (Below.refl _ _)⟩
  case round =>
    obtain ⟨k, m, hk, hm, rfl, rfl, HW⟩ := hrel
    have HBw := Lib.hid (B0.out.trans (HW.out.mono B0.out.size))
    obtain ⟨q0, q1⟩ := (G1.out.below HW.out hlt).cs
    by_cases hkn : k < n
    · have yk : (k : Int) < (n : Int) := by omega
      by_cases hm4 : m < 400000
      · have ym : (m : Int) < 400000 := by omega
        obtain ⟨ad, rfl⟩ := HN.out.some (by omega)
        obtain ⟨q, hat, his⟩ := (HN.out.below HW.out).at k hkn
        obtain ⟨c0, c1, c2, c3, c4, c5⟩ := hat.cells
        obtain ⟨q', A1, n1, d1, A2, n2, d2, A3, n3, d3, A4, n4, d4, A5, n5, d5⟩ := q
        dsimp only at c0 c1 c2 c3 c4 c5
        obtain ⟨m1, y1, z1⟩ := least n1
        obtain ⟨m2, y2, z2⟩ := least n2
        obtain ⟨m3, y3, z3⟩ := least n3
        obtain ⟨m4, y4, z4⟩ := least n4
        obtain ⟨m5, y5, z5⟩ := least n5
        clear hat his
        go_wp2_with fail
        go_roundw
        case rel => exact ⟨k + 1, m + 10 + m1 + m2 + m3 + m4 + m5, by omega, by omega, by go_num, by go_num, Lib.hid (HW.out.trans ((below_one wr _).mono HW.out.size))⟩
        case measure => simp [intOf]; omega
      · have ym : ¬ (m : Int) < 400000 := by omega
        go_wp2_with fail
        go_ret
        exact ⟨⟨_, rfl⟩, HBw.out⟩
    · have yk : ¬ (k : Int) < (n : Int) := by omega
      go_wp2_with fail
      go_ret
      exact ⟨⟨_, rfl⟩, HBw.out⟩
end Go.Proofs.YtakglldffpnlaaaGreatDoor.Rt
