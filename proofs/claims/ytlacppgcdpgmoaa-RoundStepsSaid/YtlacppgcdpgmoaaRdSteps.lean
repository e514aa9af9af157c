/- Walks: RoundSteps. -/
import Derived.Test.YtlacppgcdpgmoaaRdWalkB
namespace Go.Proofs.Ytlacppgcdpgmoaa.Rd
open Go.RowKit
set_option linter.all false

theorem step_t (n : Int) : ph2 (n + 8192) = ph2 n + 1 ∧ rst (n + 8192) = rst n := by unfold ph2 rst; omega
theorem step_g {n : Int} (h0 : 0 ≤ n) (h1 : n < 7856641) : (hi (n + 523776) = 0 ∧ hi n = 15 ∧ lo (n + 523776) = lo n - 1) ∨ (hi (n + 523776) ≠ 0 ∧ hi (n + 523776) = hi n + 1 ∧ lo (n + 523776) = lo n) := by
  obtain ⟨a1, a2, a3, a4, a5⟩ := cut_is (n := n) h0 (by omega)
  obtain ⟨b1, b2, b3, b4, b5⟩ := cut_is (n := n + 523776) (by omega) (by omega)
  rcases a5 with ⟨x, y⟩ | ⟨x, y, z⟩ <;> rcases b5 with ⟨x', y'⟩ | ⟨x', y', z'⟩
  · have : hi (n + 523776) = hi n + 1 := by omega
    exact Or.inr ⟨by omega, this, by omega⟩
  · have : hi n = 15 := by omega
    exact Or.inl ⟨x', this, by omega⟩
  · omega
  · omega
set_option maxHeartbeats 1600000 in
theorem steps_any (a : Int) (w : World) (a0 : 0 ≤ a) (a1 : a ≤ 4294967295) :
    Calls Try.prog 7 #[.int .u32 a] w fun e w' => e = .returned (.bool true) ∧ w' = w := by
  have hm : a.tmod 7856641 = a % 7856641 := tmod_pos a0
  have n1 : 0 ≤ a % 7856641 := by omega
  have n2 : a % 7856641 < 7856641 := by omega
  obtain ⟨n, hn⟩ : ∃ n, a % 7856641 = n := ⟨_, rfl⟩
  rw [hn] at hm n1 n2
  clear hn
  have H1 := power2_any n w ⟨by omega, by omega⟩
  have H2 := power2_any (n + 8192) w ⟨by omega, by omega⟩
  have H3 := parts_any n w ⟨by omega, by omega⟩
  have H4 := parts_any (n + 523776) w ⟨by omega, by omega⟩
  rw [num_id n1 (by omega)] at H1 H3
  rw [num_id (by omega) (by omega), (step_t n).1, (step_t n).2] at H2
  rw [num_id (by omega) (by omega)] at H4
  have b6 := rst_spec n
  obtain ⟨b4, b5⟩ := rst_hi n1 (by omega)
  obtain ⟨d1, d2, d3, d4, _⟩ := cut_is n1 (by omega)
  obtain ⟨f1, f2, f3, f4, _⟩ := cut_is (n := n + 523776) (by omega) (by omega)
  have S := step_g n1 n2
  obtain ⟨h, hh⟩ : ∃ h, hi n = h := ⟨_, rfl⟩
  obtain ⟨l, hl⟩ : ∃ l, lo n = l := ⟨_, rfl⟩
  obtain ⟨h', hh'⟩ : ∃ h, hi (n + 523776) = h := ⟨_, rfl⟩
  obtain ⟨l', hl'⟩ : ∃ l, lo (n + 523776) = l := ⟨_, rfl⟩
  obtain ⟨x, hx⟩ : ∃ x, ph2 n = x := ⟨_, rfl⟩
  obtain ⟨y, hy⟩ : ∃ y, rst n = y := ⟨_, rfl⟩
  rw [hx, hy] at H1 H2
  rw [hx] at b4 b5
  rw [hh, hl] at H3
  rw [hh', hl'] at H4
  rw [hh, hl, hh', hl'] at S
  rw [hh] at d1 d2
  rw [hl] at d3 d4
  rw [hh'] at f1 f2
  rw [hl'] at f3 f4
  clear hh hl hh' hl' hx hy b6
  have HH := Lib.hid (head_any w)
  have H1 := Lib.hid H1; have H2 := Lib.hid H2; have H3 := Lib.hid H3; have H4 := Lib.hid H4
  rcases S with ⟨s1, s2, s3⟩ | ⟨s1, s2, s3⟩
  · subst s1 s2 s3
    go_enter Try.func7, Try.ntmps7
    go_wp2_with fail
    refine HH.out.mono ?_
    rintro e w' ⟨rfl, rfl⟩
    go_wp2_with fail
    refine H1.out.mono ?_
    rintro e w' ⟨rfl, rfl⟩
    go_wp2_with fail
    refine H2.out.mono ?_
    rintro e w' ⟨rfl, rfl⟩
    go_wp2_with fail
    refine H3.out.mono ?_
    rintro e w' ⟨rfl, rfl⟩
    go_wp2_with fail
    refine H4.out.mono ?_
    rintro e w' ⟨rfl, rfl⟩
    go_wp2
    go_ret
    exact ⟨rfl, rfl⟩
  · subst s2 s3
    go_enter Try.func7, Try.ntmps7
    go_wp2_with fail
    refine HH.out.mono ?_
    rintro e w' ⟨rfl, rfl⟩
    go_wp2_with fail
    refine H1.out.mono ?_
    rintro e w' ⟨rfl, rfl⟩
    go_wp2_with fail
    refine H2.out.mono ?_
    rintro e w' ⟨rfl, rfl⟩
    go_wp2_with fail
    refine H3.out.mono ?_
    rintro e w' ⟨rfl, rfl⟩
    go_wp2_with fail
    refine H4.out.mono ?_
    rintro e w' ⟨rfl, rfl⟩
    go_wp2
    go_ret
    exact ⟨rfl, rfl⟩
end Go.Proofs.Ytlacppgcdpgmoaa.Rd
