/- Walks: RoundMakes. -/
import Derived.Test.YtlacppgcdpgmoaaRdWalkB
namespace Go.Proofs.Ytlacppgcdpgmoaa.Rd
open Go.RowKit
set_option linter.all false

set_option maxHeartbeats 1600000 in
theorem makes_any (a : Int) (w : World) (a0 : 0 ≤ a) (a1 : a ≤ 4294967295) :
    Calls Try.prog 4 #[.int .u32 a] w fun e w' => e = .returned (.bool true) ∧ w' = w := by
  have hm : a.tmod 8380417 = num a := tmod_pos a0
  have n1 := num_lo a; have n2 := num_hi a
  obtain ⟨n, hn⟩ : ∃ n, num a = n := ⟨_, rfl⟩
  rw [hn] at hm n1 n2
  clear hn
  obtain ⟨d1, d2, d3, d4, d5⟩ := cut_is n1 n2
  obtain ⟨b1, b2, b3⟩ := rst_spec n
  obtain ⟨b4, b5⟩ := rst_hi n1 n2
  have N : In n := ⟨by omega, by omega⟩
  have H1 := power2_any n w N
  have H2 := parts_any n w N
  rw [num_id n1 n2] at H1 H2
  obtain ⟨h, hh⟩ : ∃ h, hi n = h := ⟨_, rfl⟩
  obtain ⟨l, hl⟩ : ∃ l, lo n = l := ⟨_, rfl⟩
  obtain ⟨x, hx⟩ : ∃ x, ph2 n = x := ⟨_, rfl⟩
  obtain ⟨y, hy⟩ : ∃ y, rst n = y := ⟨_, rfl⟩
  rw [hh, hl] at H2 d5
  rw [hh] at d1 d2
  rw [hl] at d3 d4
  rw [hx, hy] at b3 H1
  rw [hx] at b4 b5
  rw [hy] at b1 b2
  clear hh hl hx hy
  have HH := Lib.hid (head_any w)
  have H1 := Lib.hid H1; have H2 := Lib.hid H2
  have e1 : x * 8192 + y = n := by omega
  clear b3 N
  have c1 : ¬ x < 0 := by omega
  have c2 : ¬ y ≤ -4096 := by omega
  by_cases p : h * 2 * 261888 + l < 0
  · have e2 : h * 2 * 261888 + l + 8380417 = n := by omega
    clear d5
    go_enter Try.func4, Try.ntmps4
    go_wp2_with fail
    refine HH.out.mono ?_
    rintro e w' ⟨rfl, rfl⟩
    go_wp2_with fail
    refine H1.out.mono ?_
    rintro e w' ⟨rfl, rfl⟩
    go_wp2_with fail
    refine H2.out.mono ?_
    rintro e w' ⟨rfl, rfl⟩
    go_wp2
    go_ret
    exact ⟨rfl, rfl⟩
  · have e2 : h * 2 * 261888 + l = n := by omega
    clear d5
    go_enter Try.func4, Try.ntmps4
    go_wp2_with fail
    refine HH.out.mono ?_
    rintro e w' ⟨rfl, rfl⟩
    go_wp2_with fail
    refine H1.out.mono ?_
    rintro e w' ⟨rfl, rfl⟩
    go_wp2_with fail
    refine H2.out.mono ?_
    rintro e w' ⟨rfl, rfl⟩
    go_wp2
    go_ret
    exact ⟨rfl, rfl⟩
end Go.Proofs.Ytlacppgcdpgmoaa.Rd
