/- Walks: number, spread, join. -/
import Derived.Test.YtjaaldkkfdfkcaaChecked
import Derived.Test.YtjaaldkkfdfkcaaSmMem
import Derived.WalkSpells
import Derived.WalkLawsBesides
import Derived.RegionTactic
import Derived.BigRegion
import Derived.BigQuiet
import Derived.Deep.QuietTactic
import Derived.StillTailTactics
import Derived.Deep.RegionHeld3
import Derived.IntWalk
import Derived.Outline
import Derived.Lib.Hide
namespace Go.Proofs.Ytjaaldkkfdfkcaa.Sm
open Go.RowKit
set_option linter.all false

theorem tmod_bd (n : Int) : -3329 < n.tmod 3329 ∧ n.tmod 3329 < 3329 := by
  rcases Int.le_total 0 n with h | h
  · rw [Int.tmod_eq_emod_of_nonneg h]; omega
  · have e : n.tmod 3329 = - ((-n) % 3329) := by
      rw [show n.tmod 3329 = -((-n).tmod 3329) by rw [Int.neg_tmod]; omega, Int.tmod_eq_emod_of_nonneg (by omega)]
    rw [e]; omega
set_option maxHeartbeats 400000 in
theorem number_is (n : Int) (x : F) (w : World) (h : red n = x) (h1 : -9223372036854775808 ≤ n) (h2 : n ≤ 9223372036854775807) :
    Calls Try.prog 37 #[.int .i64 n] w fun e w' => e = .returned (.int .i64 (nv x)) ∧ w = w' := by
  have ht := tmod_twice n
  rw [h] at ht
  obtain ⟨a, b⟩ := tmod_bd n
  clear h
  go_enter Try.func37, Try.ntmps37
  go_wp2
  go_ret
  exact ⟨rfl, rfl⟩

theorem red_add_nv (x y : F) : red (nv x + nv y) = x + y := by rw [red_add, red_nv, red_nv]
theorem red_sub_nv (x y : F) : red (nv x - nv y) = x - y := by rw [red_sub, red_nv, red_nv]
theorem red_mul_nv (x y : F) : red (nv x * nv y) = x * y := by rw [red_mul, red_nv, red_nv]
theorem red_fma (x y z : F) : red (nv x + nv y * nv z) = x + y * z := by rw [red_add, red_nv, red_mul_nv]
theorem red_fms (x y z : F) : red (nv x - nv y * nv z) = x - y * z := by rw [red_sub, red_nv, red_mul_nv]
theorem red_msb (x y z : F) : red (nv x * (nv y - nv z)) = x * (y - z) := by rw [red_mul, red_nv, red_sub_nv]
theorem msb_bd (x y z : F) : -11075584 ≤ nv x * (nv y - nv z) ∧ nv x * (nv y - nv z) ≤ 11075584 := by
  have h1 := mul_bd x y; have h2 := mul_bd x z
  rw [Int.mul_sub]; omega

set_option maxHeartbeats 800000 in
theorem spread_any (z lo hi : F) (w : World) :
    Calls Try.prog 31 #[.int .i64 (nv z), .int .i64 (nv lo), .int .i64 (nv hi)] w fun e w' => e = .returned (.tuple #[.int .i64 (nv (lo + z * hi)), .int .i64 (nv (lo - z * hi))]) ∧ w = w' := by
  obtain ⟨a, b⟩ := mul_bd z hi
  have c := nv_lo lo; have d := nv_hi lo
  go_enter Try.func31, Try.ntmps31
  go_wp2_with fail
  refine (number_is _ (lo + z * hi) _ (red_fma lo z hi) (by omega) (by omega)).mono ?_
  rintro e w' ⟨rfl, rfl⟩
  go_wp2_with fail
  refine (number_is _ (lo - z * hi) _ (red_fms lo z hi) (by omega) (by omega)).mono ?_
  rintro e w' ⟨rfl, rfl⟩
  go_wp2
  go_ret2
  exact ⟨rfl, rfl⟩

set_option maxHeartbeats 800000 in
theorem join_any (z lo hi : F) (w : World) :
    Calls Try.prog 35 #[.int .i64 (nv z), .int .i64 (nv lo), .int .i64 (nv hi)] w fun e w' => e = .returned (.tuple #[.int .i64 (nv (lo + hi)), .int .i64 (nv (z * (hi - lo)))]) ∧ w = w' := by
  obtain ⟨a, b⟩ := msb_bd z hi lo
  have c := nv_lo lo; have d := nv_hi lo
  have c' := nv_lo hi; have d' := nv_hi hi
  go_enter Try.func35, Try.ntmps35
  go_wp2_with fail
  refine (number_is _ (lo + hi) _ (red_add_nv lo hi) (by omega) (by omega)).mono ?_
  rintro e w' ⟨rfl, rfl⟩
  go_wp2_with fail
  refine (number_is _ (z * (hi - lo)) _ (red_msb z hi lo) (by omega) (by omega)).mono ?_
  rintro e w' ⟨rfl, rfl⟩
  go_wp2
  go_ret2
  exact ⟨rfl, rfl⟩
end Go.Proofs.Ytjaaldkkfdfkcaa.Sm
