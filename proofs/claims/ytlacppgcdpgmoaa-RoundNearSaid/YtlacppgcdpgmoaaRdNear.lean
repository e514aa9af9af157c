/- Walks: RoundNear. -/
import Derived.Test.YtlacppgcdpgmoaaRdWalkB
namespace Go.Proofs.Ytlacppgcdpgmoaa.Rd
open Go.RowKit
set_option linter.all false

theorem step_up {h l : Int} (h0 : 0 ≤ h) (h1 : h ≤ 15) (p : 0 < l) : ((use true h l) - h + 16).tmod 16 = 1 ∧ 0 ≤ use true h l ∧ use true h l ≤ 15 := by
  rw [use_up p, tmod_pos (by omega)]; omega
theorem step_down {h l : Int} (h0 : 0 ≤ h) (h1 : h ≤ 15) (p : ¬ 0 < l) : ((use true h l) - h + 16).tmod 16 = 15 ∧ 0 ≤ use true h l ∧ use true h l ≤ 15 := by
  rw [use_down p, tmod_pos (by omega)]; omega
set_option maxHeartbeats 1600000 in
theorem near_any (a : Int) (w : World) (a0 : 0 ≤ a) (a1 : a ≤ 4294967295) :
    Calls Try.prog 6 #[.int .u32 a] w fun e w' => e = .returned (.bool true) ∧ w' = w := by
  have hm : a.tmod 8380417 = num a := tmod_pos a0
  have n1 := num_lo a; have n2 := num_hi a
  obtain ⟨n, hn⟩ : ∃ n, num a = n := ⟨_, rfl⟩
  rw [hn] at hm n1 n2
  clear hn
  obtain ⟨d1, d2, d3, d4, _⟩ := cut_is n1 n2
  have hi' : In n := ⟨by omega, by omega⟩
  have H1 := parts_any n w hi'
  have H2 := use_any true n w hi'
  have H3 := use_any false n w hi'
  rw [num_id n1 n2] at H1 H2 H3
  rw [use_false] at H3
  obtain ⟨h, hh⟩ : ∃ h, hi n = h := ⟨_, rfl⟩
  obtain ⟨l, hl⟩ : ∃ l, lo n = l := ⟨_, rfl⟩
  rw [hh, hl] at H1 H2
  rw [hh] at H3 d1 d2
  rw [hl] at d3 d4
  clear hh hl
  have HH := Lib.hid (head_any w)
  have su := @step_up h l d1 d2
  have sd := @step_down h l d1 d2
  obtain ⟨u, hu⟩ : ∃ u, use true h l = u := ⟨_, rfl⟩
  rw [hu] at H2 su sd
  clear hu
  have H1 := Lib.hid H1; have H2 := Lib.hid H2; have H3 := Lib.hid H3
  by_cases p : 0 < l
  · obtain ⟨s1, s2, s3⟩ := su p
    clear su sd
    go_enter Try.func6, Try.ntmps6
    go_wp2_with fail
    refine HH.out.mono ?_
    rintro e w' ⟨rfl, rfl⟩
    go_wp2_with fail
    refine H1.out.mono ?_
    rintro e w' ⟨rfl, rfl⟩
    go_wp2_with fail
    refine H2.out.mono ?_
    rintro e w' ⟨rfl, rfl⟩
    go_wp2_with fail
    refine H3.out.mono ?_
    rintro e w' ⟨rfl, rfl⟩
    go_wp2
    go_ret
    exact ⟨by show Ending.returned (Value.bool (!decide (l ≤ 0))) = _; rw [decide_eq_false (show ¬ l ≤ 0 by omega)]; rfl, rfl⟩
  · obtain ⟨s1, s2, s3⟩ := sd p
    clear su sd
    go_enter Try.func6, Try.ntmps6
    go_wp2_with fail
    refine HH.out.mono ?_
    rintro e w' ⟨rfl, rfl⟩
    go_wp2_with fail
    refine H1.out.mono ?_
    rintro e w' ⟨rfl, rfl⟩
    go_wp2_with fail
    refine H2.out.mono ?_
    rintro e w' ⟨rfl, rfl⟩
    go_wp2_with fail
    refine H3.out.mono ?_
    rintro e w' ⟨rfl, rfl⟩
    go_wp2
    go_ret
    exact ⟨by show Ending.returned (Value.bool (!decide (0 < l))) = _; rw [decide_eq_false (show ¬ 0 < l by omega)]; rfl, rfl⟩
end Go.Proofs.Ytlacppgcdpgmoaa.Rd
