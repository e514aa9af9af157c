/- Walks: number, rest, the closures, cut, Power2, Parts, Hint, Use. -/
import Derived.Test.YtlacppgcdpgmoaaChecked
import Derived.Test.YtlacppgcdpgmoaaRdPlain
import Derived.WalkSpells
import Derived.WalkLawsBesides
import Derived.RegionTactic
import Derived.BigRegion
import Derived.BigQuiet
import Derived.Deep.QuietTactic
import Derived.IntWalk
import Derived.Outline
import Derived.Lib.Hide
import Derived.Laws.Bits128
namespace Go.Proofs.Ytlacppgcdpgmoaa.Rd
open Go.RowKit
set_option linter.all false

/-- a number that an int holds -/
structure In (n : Int) : Prop where
  lo : -9223372036854775808 ≤ n
  hi : n ≤ 9223372036854775807

set_option maxHeartbeats 400000 in
theorem number_is (n x : Int) (w : World) (h : num n = x) (hn : In n) :
    Calls Try.prog 22 #[.int .i64 n] w fun e w' => e = .returned (.int .i64 x) ∧ w' = w := by
  have ht := tmod_twice n
  have x1 := num_lo n; have x2 := num_hi n
  rw [h] at ht x1 x2
  obtain ⟨a, b⟩ := tmod_bd n
  obtain ⟨h1, h2⟩ := hn
  clear h
  go_enter Try.func22, Try.ntmps22
  go_wp2
  go_ret
  exact ⟨rfl, rfl⟩
set_option maxHeartbeats 400000 in
theorem rest_t (n x : Int) (w : World) (h : rst n = x) (h1 : 0 ≤ n) (h2 : n < 8380417) :
    Calls Try.prog 23 #[.int .i64 n, .int .i64 8192] w fun e w' => e = .returned (.int .i64 x) ∧ w' = w := by
  have ht : (n + 4096 - 1).tmod 8192 = x + 4095 := by rw [tmod_pos (by omega)]; unfold rst at h; omega
  have x1 : -4095 ≤ x ∧ x ≤ 4096 := by unfold rst at h; omega
  clear h
  go_enter Try.func23, Try.ntmps23
  go_wp2
  go_ret
  exact ⟨by go_num, rfl⟩
set_option maxHeartbeats 400000 in
theorem rest_g (n x : Int) (w : World) (h : rsg n = x) (h1 : 0 ≤ n) (h2 : n < 8380417) :
    Calls Try.prog 23 #[.int .i64 n, .int .i64 523776] w fun e w' => e = .returned (.int .i64 x) ∧ w' = w := by
  have ht : (n + 261888 - 1).tmod 523776 = x + 261887 := by rw [tmod_pos (by omega)]; unfold rsg at h; omega
  have x1 : -261887 ≤ x ∧ x ≤ 261888 := by unfold rsg at h; omega
  clear h
  go_enter Try.func23, Try.ntmps23
  go_wp2
  go_ret
  exact ⟨by go_num, rfl⟩
set_option maxHeartbeats 400000 in
theorem at_t (n : Int) (w : World) : Calls Try.prog 18 #[.int .i64 n] w fun e w' => e = .returned (.int .i64 n) ∧ w' = w := by
  go_enter Try.func18, Try.ntmps18
  go_wp2
  go_ret
  exact ⟨rfl, rfl⟩
set_option maxHeartbeats 400000 in
theorem at_g (n x : Int) (w : World) (h1 : 0 ≤ n) (h2 : n ≤ 8380416) (hx : x = n + n / 8380416) : Calls Try.prog 21 #[.int .i64 n] w fun e w' => e = .returned (.int .i64 x) ∧ w' = w := by
  have hd : n.tdiv 8380416 = n / 8380416 := Int.tdiv_eq_ediv_of_nonneg h1
  have x1 : 0 ≤ n / 8380416 ∧ n / 8380416 ≤ 1 := by omega
  go_enter Try.func21, Try.ntmps21
  go_wp2
  go_ret
  exact ⟨by go_num, rfl⟩
set_option maxHeartbeats 800000 in
theorem cut_t (n : Int) (w : World) (hn : In n) :
    Calls Try.prog 17 #[.int .i64 n, .int .i64 8192, .func (.func 18) #[] #[]] w fun e w' => e = .returned (.tuple #[.int .i64 (ph2 (num n)), .int .i64 (rst (num n))]) ∧ w' = w := by
  have a1 := num_lo n; have a2 := num_hi n
  obtain ⟨x, hx⟩ : ∃ x, num n = x := ⟨_, rfl⟩
  have HX := Lib.hid hx
  rw [hx] at a1 a2 ⊢
  clear hx
  obtain ⟨b1, b2, b3⟩ := rst_spec x
  obtain ⟨b4, b5⟩ := rst_hi a1 a2
  obtain ⟨r, hr⟩ : ∃ r, rst x = r := ⟨_, rfl⟩
  obtain ⟨h, hh⟩ : ∃ h, ph2 x = h := ⟨_, rfl⟩
  have HR := Lib.hid hr
  rw [hr] at b1 b2 b3 ⊢
  rw [hh] at b3 b4 b5 ⊢
  clear hr hh
  have hd : (8192 * h).tdiv 8192 = h := by rw [Int.tdiv_eq_ediv_of_nonneg (by omega)]; omega
  go_enter Try.func17, Try.ntmps17
  go_wp2_with fail
  refine (number_is n x _ HX.out hn).mono ?_
  rintro e w' ⟨rfl, rfl⟩
  go_wp2_with fail
  refine (rest_t x r _ HR.out a1 a2).mono ?_
  rintro e w' ⟨rfl, rfl⟩
  go_wp2_with fail
  refine (at_t (8192 * h) _).mono ?_
  rintro e w' ⟨rfl, rfl⟩
  go_wp2_with fail
  refine (number_is (8192 * h) (8192 * h) _ (num_id (by omega) (by omega)) ⟨by omega, by omega⟩).mono ?_
  rintro e w' ⟨rfl, rfl⟩
  go_wp2
  go_ret2
  exact ⟨by go_num, rfl⟩
/-- what the great cut's walk goes by -/
theorem great_spec {x : Int} (h1 : 0 ≤ x) (h2 : x < 8380417) : ∃ k : Int, x - rsg x = k ∧ 0 ≤ k ∧ k ≤ 8380416 ∧ (num (k + k / 8380416)) / 523776 = hi x ∧ x - (k + k / 8380416) = lo x := by
  have k0 : 0 ≤ x - rsg x := by unfold rsg; omega
  have k1 : x - rsg x ≤ 8380416 := by unfold rsg; omega
  refine ⟨_, rfl, k0, k1, ?_, ?_⟩
  · unfold hi
    by_cases c : x - rsg x = 8380416
    · rw [if_pos c, c]; decide
    · rw [if_neg c, show (x - rsg x) / 8380416 = 0 by omega, Int.add_zero, num_id k0 (by omega)]
  · unfold lo
    by_cases c : x - rsg x = 8380416
    · rw [if_pos c, c]; omega
    · rw [if_neg c, show (x - rsg x) / 8380416 = 0 by omega]; omega
set_option maxHeartbeats 800000 in
theorem cut_g (n : Int) (w : World) (hn : In n) :
    Calls Try.prog 17 #[.int .i64 n, .int .i64 523776, .func (.func 21) #[] #[]] w fun e w' => e = .returned (.tuple #[.int .i64 (hi (num n)), .int .i64 (lo (num n))]) ∧ w' = w := by
  have a1 := num_lo n; have a2 := num_hi n
  obtain ⟨x, hx⟩ : ∃ x, num n = x := ⟨_, rfl⟩
  have HX := Lib.hid hx
  rw [hx] at a1 a2 ⊢
  clear hx
  obtain ⟨k, b1, b2, b3, b4, b5⟩ := great_spec a1 a2
  have c1 : -261887 ≤ rsg x ∧ rsg x ≤ 261888 := by unfold rsg; omega
  obtain ⟨c2, c3⟩ := c1
  obtain ⟨d1, d2, d3, d4, _⟩ := cut_is a1 a2
  obtain ⟨r, hr⟩ : ∃ r, rsg x = r := ⟨_, rfl⟩
  have HR := Lib.hid hr
  rw [hr] at b1 c2 c3
  clear hr
  obtain ⟨h, hh⟩ : ∃ h, hi x = h := ⟨_, rfl⟩
  obtain ⟨l, hl⟩ : ∃ l, lo x = l := ⟨_, rfl⟩
  rw [hh] at b4 d1 d2 ⊢
  rw [hl] at b5 d3 d4 ⊢
  clear hh hl
  obtain ⟨y, hy⟩ : ∃ y, k + k / 8380416 = y := ⟨_, rfl⟩
  have HY := Lib.hid hy.symm
  have e1 : 0 ≤ y := by omega
  have e2 : y ≤ 8380417 := by omega
  rw [hy] at b4 b5
  clear hy
  have f1 := num_lo y; have f2 := num_hi y
  obtain ⟨z, hz⟩ : ∃ z, num y = z := ⟨_, rfl⟩
  have HZ := Lib.hid hz
  rw [hz] at b4 f1 f2
  clear hz
  have hd : z.tdiv 523776 = h := by rw [Int.tdiv_eq_ediv_of_nonneg f1]; exact b4
  clear b4
  go_enter Try.func17, Try.ntmps17
  go_wp2_with fail
  refine (number_is n x _ HX.out hn).mono ?_
  rintro e w' ⟨rfl, rfl⟩
  go_wp2_with fail
  refine (rest_g x r _ HR.out a1 a2).mono ?_
  rintro e w' ⟨rfl, rfl⟩
  go_wp2_with fail
  refine (at_g k y _ b2 b3 HY.out).mono ?_
  rintro e w' ⟨rfl, rfl⟩
  go_wp2_with fail
  refine (number_is y z _ HZ.out ⟨by omega, by omega⟩).mono ?_
  rintro e w' ⟨rfl, rfl⟩
  go_wp2
  go_ret2
  exact ⟨by go_num, rfl⟩
set_option maxHeartbeats 400000 in
theorem power2_any (n : Int) (w : World) (hn : In n) :
    Calls Try.prog 9 #[.int .i64 n] w fun e w' => e = .returned (.tuple #[.int .i64 (ph2 (num n)), .int .i64 (rst (num n))]) ∧ w' = w := by
  have HN := Lib.hid hn; clear hn
  go_enter Try.func9, Try.ntmps9
  go_wp2_with fail
  refine (cut_t n _ HN.out).mono ?_
  rintro e w' ⟨rfl, rfl⟩
  go_wp2
  go_ret2
  exact ⟨rfl, rfl⟩
set_option maxHeartbeats 400000 in
theorem parts_any (n : Int) (w : World) (hn : In n) :
    Calls Try.prog 11 #[.int .i64 n] w fun e w' => e = .returned (.tuple #[.int .i64 (hi (num n)), .int .i64 (lo (num n))]) ∧ w' = w := by
  have HN := Lib.hid hn; clear hn
  go_enter Try.func11, Try.ntmps11
  go_wp2_with fail
  refine (cut_g n _ HN.out).mono ?_
  rintro e w' ⟨rfl, rfl⟩
  go_wp2
  go_ret2
  exact ⟨rfl, rfl⟩
/-- does the high part change? -/
def hint (z n : Int) : Bool := decide (hi (num (num n + num z)) ≠ hi (num n))
set_option maxHeartbeats 800000 in
theorem hint_any (z n : Int) (w : World) (hz : In z) (hn : In n) :
    Calls Try.prog 13 #[.int .i64 z, .int .i64 n] w fun e w' => e = .returned (.bool (hint z n)) ∧ w' = w := by
  have HN := Lib.hid hn; have HM := Lib.hid hz; clear hn hz
  have a1 := num_lo n; have a2 := num_hi n; have a3 := num_lo z; have a4 := num_hi z
  have HH : Hid (decide (hi (num (num n + num z)) ≠ hi (num n)) = hint z n) := Lib.hid rfl
  obtain ⟨x, hx⟩ : ∃ x, num n = x := ⟨_, rfl⟩
  obtain ⟨y, hy⟩ : ∃ y, num z = y := ⟨_, rfl⟩
  have HX := Lib.hid hx; have HY := Lib.hid hy
  rw [hx] at a1 a2
  rw [hy] at a3 a4
  rw [hx, hy] at HH
  go_enter Try.func13, Try.ntmps13
  go_wp2_with fail
  refine (parts_any n _ HN.out).mono ?_
  rintro e w' ⟨rfl, rfl⟩
  rw [hx]
  clear hx hy
  obtain ⟨h, hh⟩ : ∃ h, hi x = h := ⟨_, rfl⟩
  rw [hh] at HH ⊢
  clear hh
  go_wp2_with fail
  refine (number_is n x _ HX.out HN.out).mono ?_
  rintro e w' ⟨rfl, rfl⟩
  go_wp2_with fail
  refine (number_is z y _ HY.out HM.out).mono ?_
  rintro e w' ⟨rfl, rfl⟩
  go_wp2_with fail
  refine (parts_any (x + y) _ ⟨by omega, by omega⟩).mono ?_
  rintro e w' ⟨rfl, rfl⟩
  obtain ⟨h', hh⟩ : ∃ h, hi (num (x + y)) = h := ⟨_, rfl⟩
  rw [hh] at HH ⊢
  clear hh
  go_wp2
  go_ret
  exact ⟨by rw [← HH.out]; by_cases c : h' = h <;> simp [c], rfl⟩
end Go.Proofs.Ytlacppgcdpgmoaa.Rd
