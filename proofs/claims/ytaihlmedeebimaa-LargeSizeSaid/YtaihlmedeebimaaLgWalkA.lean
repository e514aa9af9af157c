/- Walks: number, product, spread, join. -/
import Derived.Test.YtaihlmedeebimaaChecked
import Derived.Test.YtaihlmedeebimaaLgMem
import Derived.WalkSpells
import Derived.WalkLawsBesides
import Derived.RegionTactic
import Derived.BigRegion
import Derived.BigQuiet
import Derived.Deep.QuietTactic
import Derived.StillTailTactics
import Derived.Deep.RegionHeld3
import Derived.IntWalk
import Derived.Outline
import Derived.Lib.Hide
import Derived.Laws.Bits128
namespace Go.Proofs.Ytaihlmedeebimaa.Lg
open Go.RowKit
set_option linter.all false

theorem tmod_bd (n : Int) : -8380417 < n.tmod 8380417 ∧ n.tmod 8380417 < 8380417 := by
  rcases Int.le_total 0 n with h | h
  · rw [Int.tmod_eq_emod_of_nonneg h]; omega
  · have e : n.tmod 8380417 = - ((-n) % 8380417) := by
      rw [show n.tmod 8380417 = -((-n).tmod 8380417) by rw [Int.neg_tmod]; omega, Int.tmod_eq_emod_of_nonneg (by omega)]
    rw [e]; omega
theorem red_tmod (n : Int) : red (n.tmod 8380417) = red n := by
  apply red_eq
  rcases Int.le_total 0 n with h | h
  · rw [Int.tmod_eq_emod_of_nonneg h]; omega
  · have e : n.tmod 8380417 = - ((-n) % 8380417) := by
      rw [show n.tmod 8380417 = -((-n).tmod 8380417) by rw [Int.neg_tmod]; omega, Int.tmod_eq_emod_of_nonneg (by omega)]
    rw [e]; omega
set_option maxHeartbeats 400000 in
theorem number_is (n : Int) (x : F) (w : World) (h : red n = x) (h1 : -9223372036854775808 ≤ n) (h2 : n ≤ 9223372036854775807) :
    Calls Try.prog 29 #[.int .i64 n] w fun e w' => e = .returned (.int .i64 (nv x)) ∧ w = w' := by
  have ht := tmod_twice n
  rw [h] at ht
  obtain ⟨a, b⟩ := tmod_bd n
  clear h
  go_enter Try.func29, Try.ntmps29
  go_wp2
  go_ret
  exact ⟨rfl, rfl⟩
set_option maxHeartbeats 400000 in
theorem product_is (a b : Int) (x : F) (w : World) (h : red (a * b) = x) (h1 : -9223372036854775808 ≤ a * b) (h2 : a * b ≤ 9223372036854775807) :
    Calls Try.prog 37 #[.int .i64 a, .int .i64 b] w fun e w' => e = .returned (.int .i64 (nv x)) ∧ w = w' := by
  obtain ⟨c, hc⟩ : ∃ c, a * b = c := ⟨_, rfl⟩
  rw [hc] at h h1 h2
  have hw : IntKind.i64.wrap (a * b) = c := by rw [hc]; exact IntWalk.i64_in _ (by omega)
  have HH := Lib.hid ((red_tmod c).trans h)
  obtain ⟨t1, t2⟩ := tmod_bd c
  clear h hc
  go_enter Try.func37, Try.ntmps37
  go_wp2_with fail
  refine (number_is _ x _ HH.out (by omega) (by omega)).mono ?_
  rintro e w' ⟨rfl, rfl⟩
  go_wp2
  go_ret
  exact ⟨rfl, rfl⟩

theorem red_add_nv (x y : F) : red (nv x + nv y) = x + y := by rw [red_add, red_nv, red_nv]
theorem red_sub_nv (x y : F) : red (nv x - nv y) = x - y := by rw [red_sub, red_nv, red_nv]
theorem red_mul_nv (x y : F) : red (nv x * nv y) = x * y := by rw [red_mul, red_nv, red_nv]
/-- a number from less q to q -/
def Near (z : Int) (x : F) : Prop := red z = x ∧ -8380417 ≤ z ∧ z ≤ 8380417
theorem near_nv (x : F) : Near (nv x) x := ⟨red_nv x, by have := nv_lo x; omega, by have := nv_hi x; omega⟩
theorem near_neg (x : F) : Near (-nv x) (-x) := ⟨by rw [show -nv x = 0 - nv x by omega, red_sub, red_nv, show red 0 = 0 by decide]; grind, by have := nv_hi x; omega, by have := nv_lo x; omega⟩
theorem near_sub (x y : F) : Near (nv x - nv y) (x - y) := ⟨red_sub_nv x y, by have := nv_lo x; have := nv_hi y; omega, by have := nv_hi x; have := nv_lo y; omega⟩
theorem near_mul {a b : Int} {x y : F} (h : Near a x) (k : Near b y) : red (a * b) = x * y ∧ -9223372036854775808 ≤ a * b ∧ a * b ≤ 9223372036854775807 := by
  obtain ⟨h0, h1, h2⟩ := h; obtain ⟨k0, k1, k2⟩ := k
  refine ⟨by rw [red_mul, h0, k0], ?_⟩
  have e1 : 0 ≤ (8380417 - a) * (8380417 + b) := Int.mul_nonneg (by omega) (by omega)
  have e2 : 0 ≤ (8380417 + a) * (8380417 - b) := Int.mul_nonneg (by omega) (by omega)
  have e3 : 0 ≤ (8380417 - a) * (8380417 - b) := Int.mul_nonneg (by omega) (by omega)
  have e4 : 0 ≤ (8380417 + a) * (8380417 + b) := Int.mul_nonneg (by omega) (by omega)
  rw [Int.add_mul, Int.mul_add, Int.mul_add] at e4
  rw [Int.sub_mul, Int.mul_sub, Int.mul_sub] at e3
  rw [Int.add_mul, Int.mul_sub, Int.mul_sub] at e2
  rw [Int.sub_mul, Int.mul_add, Int.mul_add] at e1
  have c := Int.mul_comm a 8380417
  omega
theorem product_near {a b : Int} {x y : F} (w : World) (h : Near a x) (k : Near b y) :
    Calls Try.prog 37 #[.int .i64 a, .int .i64 b] w fun e w' => e = .returned (.int .i64 (nv (x * y))) ∧ w = w' :=
  product_is a b (x * y) w (near_mul h k).1 (near_mul h k).2.1 (near_mul h k).2.2

set_option maxHeartbeats 800000 in
theorem spread_any (z lo hi : F) (w : World) :
    Calls Try.prog 41 #[.int .i64 (nv z), .int .i64 (nv lo), .int .i64 (nv hi)] w fun e w' => e = .returned (.tuple #[.int .i64 (nv (lo + z * hi)), .int .i64 (nv (lo - z * hi))]) ∧ w = w' := by
  have c := nv_lo lo; have d := nv_hi lo
  have c' := nv_lo (z * hi); have d' := nv_hi (z * hi)
  go_enter Try.func41, Try.ntmps41
  go_wp2_with fail
  refine (product_near _ (near_nv z) (near_nv hi)).mono ?_
  rintro e w' ⟨rfl, rfl⟩
  go_wp2_with fail
  refine (number_is _ (lo + z * hi) _ (red_add_nv lo (z * hi)) (by omega) (by omega)).mono ?_
  rintro e w' ⟨rfl, rfl⟩
  go_wp2_with fail
  refine (number_is _ (lo - z * hi) _ (red_sub_nv lo (z * hi)) (by omega) (by omega)).mono ?_
  rintro e w' ⟨rfl, rfl⟩
  go_wp2
  go_ret2
  exact ⟨rfl, rfl⟩

set_option maxHeartbeats 800000 in
theorem join_any (zi : Int) (z lo hi : F) (w : World) (hz : Near zi z) :
    Calls Try.prog 44 #[.int .i64 zi, .int .i64 (nv lo), .int .i64 (nv hi)] w fun e w' => e = .returned (.tuple #[.int .i64 (nv (lo + hi)), .int .i64 (nv (z * (lo - hi)))]) ∧ w = w' := by
  have c := nv_lo lo; have d := nv_hi lo
  have c' := nv_lo hi; have d' := nv_hi hi
  have HZ := Lib.hid hz; clear hz
  go_enter Try.func44, Try.ntmps44
  go_wp2_with fail
  refine (number_is _ (lo + hi) _ (red_add_nv lo hi) (by omega) (by omega)).mono ?_
  rintro e w' ⟨rfl, rfl⟩
  go_wp2_with fail
  refine (product_near _ HZ.out (near_sub lo hi)).mono ?_
  rintro e w' ⟨rfl, rfl⟩
  go_wp2
  go_ret2
  exact ⟨rfl, rfl⟩

/-! ### centred numbers -/
def cen (x : F) : Int := if nv x ≤ 4190208 then nv x else nv x - 8380417
theorem cen_bd (x : F) : -4190208 ≤ cen x ∧ cen x ≤ 4190208 := by unfold cen; have := nv_lo x; have := nv_hi x; split <;> omega
theorem cen_is (x : F) : nv (red (nv x + 4190208)) - 4190208 = cen x := by
  rw [nv_red]; unfold cen; have := nv_lo x; have := nv_hi x; split <;> omega
theorem red_cen (x : F) : red (cen x) = x := by
  rw [← cen_is, red_sub, red_nv, red_add, red_nv]; grind
def mag (x : F) : Int := if cen x < 0 then -cen x else cen x
theorem mag_bd (x : F) : 0 ≤ mag x ∧ mag x ≤ 4190208 := by unfold mag; have := cen_bd x; split <;> omega
set_option maxHeartbeats 400000 in
theorem centred_is (n : Int) (x : F) (w : World) (h : red n = x) (h1 : -9223372036854775808 ≤ n) (h2 : n ≤ 9223372036854775807) :
    Calls Try.prog 32 #[.int .i64 n] w fun e w' => e = .returned (.int .i64 (cen x)) ∧ w = w' := by
  have a1 := nv_lo x; have a2 := nv_hi x
  have b1 := nv_lo (red (nv x + 4190208)); have b2 := nv_hi (red (nv x + 4190208))
  have HC := Lib.hid (cen_is x)
  go_enter Try.func32, Try.ntmps32
  go_wp2_with fail
  refine (number_is _ x _ h h1 h2).mono ?_
  rintro e w' ⟨rfl, rfl⟩
  go_wp2_with fail
  refine (number_is _ (red (nv x + 4190208)) _ rfl (by omega) (by omega)).mono ?_
  rintro e w' ⟨rfl, rfl⟩
  go_wp2
  go_ret
  exact ⟨by rw [HC.out]; rfl, rfl⟩
theorem i64_xor_zero (n : Int) (h1 : -9223372036854775808 ≤ n) (h2 : n ≤ 9223372036854775807) : bits .xor .i64 n 0 = n := by
  show IntKind.i64.wrap ((BitVec.ofInt 64 n ^^^ BitVec.ofInt 64 0).toNat : Int) = _
  rw [show BitVec.ofInt 64 0 = 0#64 by decide, BitVec.xor_zero, BitVec.toNat_ofInt, IntKind.wrap_i64]
  omega
theorem i64_xor_ones (n : Int) (h1 : -9223372036854775808 ≤ n) (h2 : n ≤ 9223372036854775807) : bits .xor .i64 n (-1) = -1 - n := by
  show IntKind.i64.wrap ((BitVec.ofInt 64 n ^^^ BitVec.ofInt 64 (-1)).toNat : Int) = _
  rw [show BitVec.ofInt 64 (-1) = BitVec.allOnes 64 by decide, BitVec.xor_allOnes, BitVec.toNat_not, BitVec.toNat_ofInt, IntKind.wrap_i64]
  omega
set_option maxHeartbeats 400000 in
theorem unsigned_is (x : F) (w : World) :
    Calls Try.prog 33 #[.int .i64 (cen x)] w fun e w' => e = .returned (.int .i64 (mag x)) ∧ w = w' := by
  obtain ⟨a1, a2⟩ := cen_bd x
  have hm : mag x = if cen x < 0 then -cen x else cen x := rfl
  obtain ⟨c, hc⟩ : ∃ c, cen x = c := ⟨_, rfl⟩
  obtain ⟨m, hm'⟩ : ∃ m, mag x = m := ⟨_, rfl⟩
  rw [hm', hc] at hm
  rw [hc] at a1 a2
  rw [hm', hc]
  clear hc hm'
  by_cases h : c < 0
  · rw [if_pos h] at hm
    have HM := Lib.hid hm
    have s : c / 2147483648 = -1 := by omega
    have b : bits .xor .i64 c (-1) = -1 - c := i64_xor_ones c (by omega) (by omega)
    clear hm
    go_enter Try.func33, Try.ntmps33
    go_wp2
    go_ret
    exact ⟨by rw [HM.out]; first | rfl | go_num, rfl⟩
  · rw [if_neg h] at hm
    have HM := Lib.hid hm
    have s : c / 2147483648 = 0 := by omega
    have b : bits .xor .i64 c 0 = c := i64_xor_zero c (by omega) (by omega)
    clear hm
    go_enter Try.func33, Try.ntmps33
    go_wp2
    go_ret
    exact ⟨by rw [HM.out]; first | rfl | go_num, rfl⟩
end Go.Proofs.Ytaihlmedeebimaa.Lg
