/- The fields of the words of whole numbers. -/
import Derived.Test.YtgpjlofdeidacaaDoorFlPlain
import Derived.Laws.BitsAllLaws
namespace Go.Proofs.YtgpjlofdeidacaaDoor.Fl
set_option linter.all false
open Ieee

/-- the word of a whole number that is not nought, by its fields -/
theorem fields {q : Nat} (hz : q ≠ 0) (h : q < 2 ^ 53) : ∃ f, fl q = (q.log2 + 1023) * 2 ^ 52 + f ∧ f < 2 ^ 52 ∧ f + 2 ^ 52 = q * 2 ^ (52 - q.log2) := by
  have h1 := sig_lo q hz h
  have h2 := sig_hi q h
  have hl := log2_le q h
  refine ⟨q * 2 ^ (52 - q.log2) - 2 ^ 52, ?_, by omega, by omega⟩
  rw [fl_word q h]
  unfold word rung
  rw [if_neg hz]
  omega
theorem read_pos {q : Nat} (hz : q ≠ 0) (h : q < 2 ^ 53) : ∃ k : Nat, k ≤ 52 ∧ double.read (fl q) = .number false (q * 2 ^ k) (-(k : Int)) := by
  have hl := log2_le q h
  refine ⟨52 - q.log2, by omega, ?_⟩
  rw [fl_word q h]
  unfold word rung
  rw [if_neg hz, read_gen _ _ (sig_lo q hz h) (sig_hi q h) (by omega)]
  have e : ((q.log2 + 1022 - 0 : Nat) : Int) - 1074 = -((52 - q.log2 : Nat) : Int) := by omega
  rw [e]
/-- no whole number that is not nought is below the smallest normal one -/
theorem normal {q : Nat} (hz : q ≠ 0) (h : q < 2 ^ 52) : double.order (fl q) 4503599627370496 = some .gt := by
  obtain ⟨k, hk, hr⟩ := read_pos hz (by omega)
  have h2 : double.read 4503599627370496 = .number false (2 ^ 52) (-1074) := by
    have := read_gen 0 (2 ^ 52) (by decide) (by decide) (by decide)
    simpa using this
  rw [Format.order, hr, h2]
  simp only [Datum.order, signed_false]
  obtain ⟨J, hJ⟩ : ∃ J : Nat, J = 1074 := ⟨_, rfl⟩
  rw [show (-(k : Int) - min (-(k : Int)) (-1074)).toNat = J - k by omega, show (-1074 - min (-(k : Int)) (-1074)).toNat = 0 by omega]
  rw [Int.compare_eq_gt.2]
  refine Int.ofNat_lt.2 ?_
  rw [Nat.mul_assoc q, ← Nat.pow_add 2 k]
  have e : 2 ^ 53 ≤ 2 ^ (k + (J - k)) := Nat.pow_le_pow_right (by decide) (by omega)
  generalize 2 ^ (k + (J - k)) = P at *
  have : P ≤ q * P := Nat.le_mul_of_pos_left _ (by omega)
  omega
/-- every whole number is below the greatest one -/
theorem finite {q : Nat} (h : q < 2 ^ 52) : double.order (fl q) 9218868437227405311 = some .lt := by
  obtain ⟨k, hr⟩ := read_fl q (by omega)
  have h2 : double.read 9218868437227405311 = .number false (2 ^ 53 - 1) 971 := by
    have := read_gen 2045 (2 ^ 53 - 1) (by decide) (by decide) (by decide)
    simpa using this
  rw [Format.order, hr, h2]
  simp only [Datum.order, signed_false]
  obtain ⟨j, hj⟩ : ∃ j : Nat, j = 971 := ⟨_, rfl⟩
  rw [show (-(k : Int) - min (-(k : Int)) 971).toNat = 0 by omega, show (971 - min (-(k : Int)) 971).toNat = j + k by omega]
  clear hj
  congr 1
  refine Int.compare_eq_lt.2 (Int.ofNat_lt.2 ?_)
  have hp := Nat.two_pow_pos k
  have h3 := Nat.two_pow_pos j
  rw [Nat.pow_zero, Nat.mul_one, Nat.pow_add, ← Nat.mul_assoc]
  refine Nat.mul_lt_mul_of_pos_right ?_ hp
  have : 2 ^ 53 - 1 ≤ (2 ^ 53 - 1) * 2 ^ j := Nat.le_mul_of_pos_right _ h3
  omega

theorem and_fields (a b c d : Nat) (hb : b < 2 ^ 52) (hd : d < 2 ^ 52) : (2 ^ 52 * a + b) &&& (2 ^ 52 * c + d) = 2 ^ 52 * (a &&& c) + (b &&& d) := by
  have hbd : b &&& d < 2 ^ 52 := Nat.and_lt_two_pow _ hd
  apply Nat.eq_of_testBit_eq
  intro i
  rw [Nat.testBit_and, Nat.testBit_two_pow_mul_add _ hb, Nat.testBit_two_pow_mul_add _ hd, Nat.testBit_two_pow_mul_add _ hbd]
  split <;> rw [Nat.testBit_and]
/-- the exponent is struck out -/
theorem strike (c f : Nat) (hc : c < 2048) (hf : f < 2 ^ 52) : bits .andNot .u64 ((c * 2 ^ 52 + f : Nat) : Int) (9218868437227405312 : Int) = (f : Int) := by
  have h := u64_andNot_nat (c * 2 ^ 52 + f) 9218868437227405312 (by omega) (by decide)
  rw [show ((9218868437227405312 : Nat) : Int) = 9218868437227405312 from rfl] at h
  rw [h, show 18446744073709551615 - 9218868437227405312 = 2 ^ 52 * 2048 + (2 ^ 52 - 1) by decide, Nat.mul_comm c, and_fields _ _ _ _ hf (by decide)]
  rw [Nat.and_two_pow_sub_one_eq_mod, Nat.mod_eq_of_lt hf]
  have : c &&& 2048 = 0 := by
    apply Nat.eq_of_testBit_eq
    intro i
    rw [Nat.testBit_and, show 2048 = 2 ^ 11 from rfl, Nat.testBit_two_pow, Nat.zero_testBit]
    by_cases h : 11 = i
    · subst h; rw [Nat.testBit_lt_two_pow hc]; rfl
    · rw [decide_eq_false h, Bool.and_false]
  rw [this]; simp
theorem put_in (c f : Nat) (hc : c < 2048) (hf : f < 2 ^ 52) : bits .or .u64 (f : Int) ((c * 2 ^ 52 : Nat) : Int) = ((c * 2 ^ 52 + f : Nat) : Int) := by
  rw [u64_or_nat f (c * 2 ^ 52) (by omega) (by omega), Nat.or_comm, Nat.mul_comm c, Nat.two_pow_add_eq_or_of_lt hf]
theorem and_mask (c : Nat) (hc : c < 2048) : bits .and .u64 (c : Int) (2047 : Int) = (c : Int) := by
  have h := u64_and_nat c 2047 (by omega) (by decide)
  rw [show ((2047 : Nat) : Int) = 2047 from rfl] at h
  rw [h, show 2047 = 2 ^ 11 - 1 from rfl, Nat.and_two_pow_sub_one_eq_mod, Nat.mod_eq_of_lt hc]
theorem fl_pow (l : Nat) (h : l ≤ 52) : fl (2 ^ l) = (l + 1023) * 2 ^ 52 := by
  have h1 : 2 ^ l ≠ 0 := by have := Nat.two_pow_pos l; omega
  have h2 : 2 ^ l < 2 ^ 53 := Nat.pow_lt_pow_right (by decide) (by omega)
  obtain ⟨f, hf, -, hf2⟩ := fields h1 h2
  rw [Nat.log2_two_pow] at hf hf2
  rw [← Nat.pow_add, show l + (52 - l) = 52 by omega] at hf2
  have e : f = 0 := by omega
  rw [hf, e, Nat.add_zero]
/-- the order of two words without a sign, of one exponent -/
theorem order_half (f : Nat) (h : f < 2 ^ 52) : double.order (1022 * 2 ^ 52 + f) 4602678819172646912 = some .gt ∨ double.order (1022 * 2 ^ 52 + f) 4602678819172646912 = some .eq := by
  have h1 : double.read (1022 * 2 ^ 52 + f) = .number false (2 ^ 52 + f) (-53) := by
    have := read_gen 1021 (2 ^ 52 + f) (by omega) (by omega) (by decide)
    rw [show 1022 * 2 ^ 52 + f = 1021 * 2 ^ 52 + (2 ^ 52 + f) by omega, this]; rfl
  have h2 : double.read 4602678819172646912 = .number false (2 ^ 52) (-53) := by
    have := read_gen 1021 (2 ^ 52) (by decide) (by decide) (by decide)
    simpa using this
  rw [Format.order, h1, h2]
  simp only [Datum.order, signed_false]
  rcases Nat.eq_zero_or_pos f with e | e
  · right; rw [Int.compare_eq_eq.2 (by rw [e, Nat.add_zero])]
  · left; rw [Int.compare_eq_gt.2 (Int.ofNat_lt.2 (Nat.mul_lt_mul_of_pos_right (by omega) (Nat.two_pow_pos _)))]
end Go.Proofs.YtgpjlofdeidacaaDoor.Fl
