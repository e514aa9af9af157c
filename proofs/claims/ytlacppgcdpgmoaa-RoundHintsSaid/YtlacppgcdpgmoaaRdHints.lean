/- Walks: RoundHints. -/
import Derived.Test.YtlacppgcdpgmoaaRdWalkB
namespace Go.Proofs.Ytlacppgcdpgmoaa.Rd
open Go.RowKit
set_option linter.all false

theorem tmod_small (n : Int) : -261888 ≤ n.tmod 261889 ∧ n.tmod 261889 ≤ 261888 := by
  rcases Int.le_total 0 n with h | h
  · rw [Int.tmod_eq_emod_of_nonneg h]; omega
  · have e : n.tmod 261889 = - ((-n) % 261889) := by
      rw [show n.tmod 261889 = -((-n).tmod 261889) by rw [Int.neg_tmod]; omega, Int.tmod_eq_emod_of_nonneg (by omega)]
    rw [e]; omega
theorem num_num (n : Int) : num (num n) = num n := num_id (num_lo n) (num_hi n)
theorem num_add {a b c : Int} (h : num a = num b) : num (c + a) = num (c + b) := by unfold num at *; omega
theorem hint_zero (n : Int) : hint 0 n = false := by
  unfold hint
  rw [show num 0 = 0 by decide, Int.add_zero, num_num]
  simp
theorem hint_is {n m : Int} (n1 : 0 ≤ n) (n2 : n < 8380417) (m1 : -261888 ≤ m) (m2 : m ≤ 261888) : use (hint m n) (hi n) (lo n) = hi (num (n + m)) := by
  have e : hint m n = decide (hi (num (n + m)) ≠ hi n) := by
    unfold hint
    rw [num_id n1 n2, num_add (num_num m)]
  rw [e]
  exact tells n1 n2 m1 m2 rfl (cut_is n1 n2) (cut_is (num_lo _) (num_hi _))
set_option maxHeartbeats 1600000 in
theorem hints_any (a z : Int) (w : World) (a0 : 0 ≤ a) (a1 : a ≤ 4294967295) (z0 : -2147483648 ≤ z) (z1 : z ≤ 2147483647) :
    Calls Try.prog 5 #[.int .u32 a, .int .i32 z] w fun e w' => e = .returned (.bool true) ∧ w' = w := by
  have hm : a.tmod 8380417 = num a := tmod_pos a0
  have n1 := num_lo a; have n2 := num_hi a
  obtain ⟨n, hn⟩ : ∃ n, num a = n := ⟨_, rfl⟩
  rw [hn] at hm n1 n2
  clear hn
  obtain ⟨m1, m2⟩ := tmod_small z
  obtain ⟨m, hz⟩ : ∃ m, z.tmod 261889 = m := ⟨_, rfl⟩
  rw [hz] at m1 m2
  have T := hint_is n1 n2 m1 m2
  have N : In n := ⟨by omega, by omega⟩
  have M : In m := ⟨by omega, by omega⟩
  have H2 := hint_any m n w M N
  have H3 := use_any (hint m n) n w N
  have H4 := hint_any 0 n w ⟨by omega, by omega⟩ N
  rw [hint_zero] at H4
  rw [num_id n1 n2, T] at H3
  have HH := Lib.hid (head_any w)
  have HN : ∀ s, num s = num (n + m) → In s → Hid (Calls Try.prog 11 #[.int .i64 s] w fun e w' => e = .returned (.tuple #[.int .i64 (hi (num (n + m))), .int .i64 (lo (num (n + m)))]) ∧ w' = w) := fun s e k => Lib.hid (by
    have := parts_any s w k
    rw [e] at this
    exact this)
  obtain ⟨h, hh⟩ : ∃ h, hi (num (n + m)) = h := ⟨_, rfl⟩
  obtain ⟨l, hl⟩ : ∃ l, lo (num (n + m)) = l := ⟨_, rfl⟩
  rw [hh] at H3 HN
  rw [hl] at HN
  clear hh hl T
  obtain ⟨t, ht⟩ : ∃ t, hint m n = t := ⟨_, rfl⟩
  rw [ht] at H2 H3
  clear ht
  have H2 := Lib.hid H2; have H3 := Lib.hid H3; have H4 := Lib.hid H4
  by_cases p : n + m < 0
  · have H1 := HN (n + m + 8380417) (by unfold num; omega) ⟨by omega, by omega⟩
    clear HN N M
    go_enter Try.func5, Try.ntmps5
    go_wp2_with fail
    refine HH.out.mono ?_
    rintro e w' ⟨rfl, rfl⟩
    go_wp2_with fail
    refine H1.out.mono ?_
    rintro e w' ⟨rfl, rfl⟩
    go_wp2_with fail
    refine H2.out.mono ?_
    rintro e w' ⟨rfl, rfl⟩
    go_wp2_with fail
    refine H3.out.mono ?_
    rintro e w' ⟨rfl, rfl⟩
    go_wp2_with fail
    refine H4.out.mono ?_
    rintro e w' ⟨rfl, rfl⟩
    go_wp2
    go_ret
    exact ⟨rfl, rfl⟩
  · have H1 := HN (n + m) rfl ⟨by omega, by omega⟩
    clear HN N M
    go_enter Try.func5, Try.ntmps5
    go_wp2_with fail
    refine HH.out.mono ?_
    rintro e w' ⟨rfl, rfl⟩
    go_wp2_with fail
    refine H1.out.mono ?_
    rintro e w' ⟨rfl, rfl⟩
    go_wp2_with fail
    refine H2.out.mono ?_
    rintro e w' ⟨rfl, rfl⟩
    go_wp2_with fail
    refine H3.out.mono ?_
    rintro e w' ⟨rfl, rfl⟩
    go_wp2_with fail
    refine H4.out.mono ?_
    rintro e w' ⟨rfl, rfl⟩
    go_wp2
    go_ret
    exact ⟨rfl, rfl⟩
end Go.Proofs.Ytlacppgcdpgmoaa.Rd
