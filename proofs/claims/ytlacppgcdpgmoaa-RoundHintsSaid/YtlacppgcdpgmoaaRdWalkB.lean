/- Walks: Use, head. -/
import Derived.Test.YtlacppgcdpgmoaaRdWalkA
namespace Go.Proofs.Ytlacppgcdpgmoaa.Rd
open Go.RowKit
set_option linter.all false

set_option maxHeartbeats 800000 in
theorem use_any (t : Bool) (n : Int) (w : World) (hn : In n) :
    Calls Try.prog 15 #[.bool t, .int .i64 n] w fun e w' => e = .returned (.int .i64 (use t (hi (num n)) (lo (num n)))) ∧ w' = w := by
  obtain ⟨d1, d2, d3, d4, _⟩ := cut_is (num_lo n) (num_hi n)
  have HP := Lib.hid (parts_any n w hn); clear hn
  obtain ⟨h, hh⟩ : ∃ h, hi (num n) = h := ⟨_, rfl⟩
  obtain ⟨l, hl⟩ : ∃ l, lo (num n) = l := ⟨_, rfl⟩
  rw [hh, hl] at HP
  rw [hh] at d1 d2 ⊢
  rw [hl] at d3 d4 ⊢
  clear hh hl
  cases t
  · rw [use_false]
    go_enter Try.func15, Try.ntmps15
    go_wp2_with fail
    refine HP.out.mono ?_
    rintro e w' ⟨rfl, rfl⟩
    go_wp2
    go_ret
    exact ⟨rfl, rfl⟩
  · by_cases p : 0 < l
    · rw [use_up p]
      have hm : (h + 1).tmod 16 = (h + 1) % 16 := tmod_pos (by omega)
      go_enter Try.func15, Try.ntmps15
      go_wp2_with fail
      refine HP.out.mono ?_
      rintro e w' ⟨rfl, rfl⟩
      go_wp2
      go_ret
      exact ⟨by go_num, rfl⟩
    · rw [use_down p]
      have hm : (h + 16 - 1).tmod 16 = (h + 15) % 16 := by rw [tmod_pos (by omega)]; omega
      go_enter Try.func15, Try.ntmps15
      go_wp2_with fail
      refine HP.out.mono ?_
      rintro e w' ⟨rfl, rfl⟩
      go_wp2
      go_ret
      exact ⟨by go_num, rfl⟩
theorem heads : ph2 (num 4097) = 1 ∧ rst (num 4097) = -4095 ∧ hi (num 8380416) = 0 ∧ lo (num 8380416) = -1 ∧ use true (hi (num 5)) (lo (num 5)) = 1 ∧ hint 300000 0 = true := by decide +kernel
set_option maxHeartbeats 800000 in
theorem head_any (w : World) : Calls Try.prog 8 #[] w fun e w' => e = .returned (.bool true) ∧ w' = w := by
  obtain ⟨h1, h2, h3, h4, h5, h6⟩ := heads
  have H1 := power2_any 4097 w ⟨by omega, by omega⟩
  have H2 := parts_any 8380416 w ⟨by omega, by omega⟩
  have H3 := use_any true 5 w ⟨by omega, by omega⟩
  have H4 := hint_any 300000 0 w ⟨by omega, by omega⟩ ⟨by omega, by omega⟩
  rw [h1, h2] at H1
  rw [h3, h4] at H2
  rw [h5] at H3
  rw [h6] at H4
  have K1 := Lib.hid H1; have K2 := Lib.hid H2; have K3 := Lib.hid H3; have K4 := Lib.hid H4
  clear h1 h2 h3 h4 h5 h6 H1 H2 H3 H4
  go_enter Try.func8, Try.ntmps8
  go_wp2_with fail
  refine K1.out.mono ?_
  rintro e w' ⟨rfl, rfl⟩
  go_wp2_with fail
  refine K2.out.mono ?_
  rintro e w' ⟨rfl, rfl⟩
  go_wp2_with fail
  refine K3.out.mono ?_
  rintro e w' ⟨rfl, rfl⟩
  go_wp2_with fail
  refine K4.out.mono ?_
  rintro e w' ⟨rfl, rfl⟩
  go_wp2
  go_ret
  exact ⟨rfl, rfl⟩
end Go.Proofs.Ytlacppgcdpgmoaa.Rd
