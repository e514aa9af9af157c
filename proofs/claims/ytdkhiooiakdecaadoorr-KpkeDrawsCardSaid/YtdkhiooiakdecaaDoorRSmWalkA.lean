/- Walks: number, spread, join. -/
import Derived.Test.YtdkhiooiakdecaaDoorRChecked
import Derived.Test.YtdkhiooiakdecaaDoorRSmMem
import Derived.WalkSpells
import Derived.WalkLawsBesides
import Derived.RegionTactic
import Derived.BigRegion
import Derived.BigQuiet
import Derived.Deep.QuietTactic
import Derived.StillTailTactics
import Derived.Deep.RegionHeld3
import Derived.IntWalk
import Derived.Outline
import Derived.Lib.Hide
namespace Go.Proofs.YtdkhiooiakdecaaDoorR.Sm
open Go.RowKit
set_option linter.all false

theorem tmod_bd (n : Int) : -3329 < n.tmod 3329 ∧ n.tmod 3329 < 3329 := by
  rcases Int.le_total 0 n with h | h
  · rw [Int.tmod_eq_emod_of_nonneg h]; omega
  · have e : n.tmod 3329 = - ((-n) % 3329) := by
      rw [show n.tmod 3329 = -((-n).tmod 3329) by rw [Int.neg_tmod]; omega, Int.tmod_eq_emod_of_nonneg (by omega)]
    rw [e]; omega
set_option maxHeartbeats 400000 in
theorem number_is (n : Int) (x : F) (w : World) (h : red n = x) (h1 : -9223372036854775808 ≤ n) (h2 : n ≤ 9223372036854775807) :
    Calls Tryd.prog 59 #[.int .i64 n] w fun e w' => e = .returned (.int .i64 (nv x)) ∧ w = w' := by
  have ht := tmod_twice n
  rw [h] at ht
  obtain ⟨a, b⟩ := tmod_bd n
  clear h
  go_enter Tryd.func59, Tryd.ntmps59
  go_wp2
  go_ret
  exact ⟨rfl, rfl⟩

theorem red_add_nv (x y : F) : red (nv x + nv y) = x + y := by rw [red_add, red_nv, red_nv]
theorem red_sub_nv (x y : F) : red (nv x - nv y) = x - y := by rw [red_sub, red_nv, red_nv]
theorem red_mul_nv (x y : F) : red (nv x * nv y) = x * y := by rw [red_mul, red_nv, red_nv]
theorem red_fma (x y z : F) : red (nv x + nv y * nv z) = x + y * z := by rw [red_add, red_nv, red_mul_nv]
theorem red_fms (x y z : F) : red (nv x - nv y * nv z) = x - y * z := by rw [red_sub, red_nv, red_mul_nv]
theorem red_msb (x y z : F) : red (nv x * (nv y - nv z)) = x * (y - z) := by rw [red_mul, red_nv, red_sub_nv]
theorem msb_bd (x y z : F) : -11075584 ≤ nv x * (nv y - nv z) ∧ nv x * (nv y - nv z) ≤ 11075584 := by
  have h1 := mul_bd x y; have h2 := mul_bd x z
  rw [Int.mul_sub]; omega

end Go.Proofs.YtdkhiooiakdecaaDoorR.Sm
