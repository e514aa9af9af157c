/- Walks: TrailingZeros, At. The fields of the words of whole numbers. Walks: IsInf, IsNaN, normalize, Frexp, Ldexp, Mod by two, Other. Walks: Ldexp of two, Mod by two, Other. -/
import Derived.Test.YtakglldffpnlaaaGreatDoorSpM1
import Derived.Laws.BitsAllLaws
namespace Go.Proofs.YtakglldffpnlaaaGreatDoor.Sp
set_option linter.all false
set_option maxRecDepth 100000
open Go.RowKit Fl

/-- the table that package math/bits looks trailing noughts up in -/
def bru : List Nat := [0, 1, 56, 2, 57, 49, 28, 3, 61, 58, 42, 50, 38, 29, 17, 4, 62, 47, 59, 36, 45, 43, 51, 22, 53, 39, 33, 30, 24, 18, 12, 5, 63, 55, 48, 27, 60, 41, 37, 16, 46, 35, 44, 21, 52, 32, 23, 11, 54, 26, 40, 15, 34, 20, 31, 10, 25, 14, 19, 9, 13, 8, 7, 6]
def gt (l : List Nat) (i : Nat) : Nat := l.getD i 0
def numsOf (k : IntKind) (l : List Nat) : Array Value := (l.map fun x => Value.int k ((x : Nat) : Int)).toArray
theorem numsOf_at (k : IntKind) (l : List Nat) (i : Nat) (h : i < l.length) : (numsOf k l)[i]? = some (.int k ((gt l i : Nat) : Int)) := by
  simp [numsOf, gt, List.getD_eq_getElem?_getD, h]
def Tab (w : World) : Prop := ∃ t fr, w.heap[5]? = some (.cells (numsOf .u8 bru) t fr)
theorem Tab.lt {w : World} (h : Tab w) : 5 < w.heap.size := by
  obtain ⟨t, fr, h⟩ := h
  exact (Array.getElem?_eq_some_iff.1 h).1
theorem Tab.cell {w : World} (h : Tab w) (i : Nat) (hi : i < 64) : w.cell? ⟨5, i, none⟩ = some (.int .u8 ((gt bru i : Nat) : Int)) := by
  obtain ⟨t, fr, h⟩ := h
  have h2 := numsOf_at .u8 bru i hi
  simp [World.cell?, h, h2]
theorem Tab.below {w w' : World} (h : Tab w) (hb : Below w.heap.size w w') : Tab w' := by
  have hl := h.lt
  obtain ⟨t, fr, h⟩ := h
  exact ⟨t, fr, (hb.block _ hl).trans h⟩

theorem low_bit (l p : Nat) (hl : l ≤ 16) (hp : p < 65536) : ((2 ^ l * (2 * p + 1)) &&& (18446744073709551616 - 2 ^ l * (2 * p + 1))) = 2 ^ l := by
  have h2 := Nat.two_pow_pos l
  have hle : 2 ^ l ≤ 65536 := pow_le l hl
  have hn : 2 ^ l * (2 * p + 1) = 2 ^ l * (2 * p) + (2 ^ l - 1) + 1 := by rw [Nat.mul_add, Nat.mul_one]; omega
  have hlt : 2 ^ l * (2 * p) + (2 ^ l - 1) < 2 ^ 64 := by
    have : 2 ^ l * (2 * p) ≤ 65536 * (2 * p) := Nat.mul_le_mul_right _ hle
    omega
  apply Nat.eq_of_testBit_eq
  intro i
  rw [Nat.testBit_and, show 18446744073709551616 - 2 ^ l * (2 * p + 1) = 2 ^ 64 - ((2 ^ l * (2 * p) + (2 ^ l - 1)) + 1) by rw [← hn], Nat.testBit_two_pow_sub_succ hlt,
    Nat.testBit_two_pow_mul_add _ (by omega), Nat.testBit_two_pow_mul, Nat.testBit_two_pow]
  rcases Nat.lt_trichotomy i l with h | h | h
  · have e1 : decide (i ≥ l) = false := decide_eq_false (by omega)
    have e2 : decide (l = i) = false := decide_eq_false (by omega)
    rw [e1, e2]; simp
  · subst h
    have e3 : (2 * p + 1).testBit 0 = true := by simp
    have e4 : (2 * p).testBit 0 = false := by simp
    have e5 : i < 64 := by omega
    simp [e3, e4, e5]
  · obtain ⟨k, rfl⟩ : ∃ k, i = l + (k + 1) := ⟨i - l - 1, by omega⟩
    have e1 : (2 * p + 1).testBit (k + 1) = p.testBit k := by rw [Nat.testBit_succ]; congr 1; omega
    have e2 : (2 * p).testBit (k + 1) = p.testBit k := by rw [Nat.testBit_succ]; congr 1; omega
    have e3 : l + (k + 1) - l = k + 1 := by omega
    have e4 : ¬ (l + (k + 1) < l) := by omega
    have e5 : decide (l = l + (k + 1)) = false := decide_eq_false (by omega)
    rw [e3, e1, if_neg e4, e2, e5]
    cases p.testBit k <;> simp

theorem bru_at : ∀ l, l < 17 → ∃ M J, 2 ^ l * 285870213051353865 % 18446744073709551616 = M ∧ M / 288230376151711744 = J ∧ J < 64 ∧ gt bru J = l := by
  have h : ∀ l, l < 17 → 2 ^ l * 285870213051353865 % 18446744073709551616 / 288230376151711744 < 64 ∧ gt bru (2 ^ l * 285870213051353865 % 18446744073709551616 / 288230376151711744) = l := by decide +kernel
  intro l hl
  obtain ⟨h1, h2⟩ := h l hl
  exact ⟨_, _, rfl, rfl, h1, h2⟩

set_option maxHeartbeats 1000000 in
set_option maxRecDepth 100000 in
theorem tz64_is (n l p : Nat) (w : World) (hT : Tab w) (hn : 2 ^ l * (2 * p + 1) = n) (hl : l ≤ 16) (hp : p < 65536) :
    Calls Tryz.prog 118 #[.int .u64 (n : Int)] w fun e w' => e = .returned (.int .i64 (l : Int)) ∧ w = w' := by
  have hle : 2 ^ l ≤ 65536 := pow_le l hl
  have h2 := Nat.two_pow_pos l
  have hn1 : 1 ≤ n := by rw [← hn]; exact Nat.mul_pos h2 (by omega)
  have hn2 : n < 18446744073709551616 := by
    rw [← hn]
    have : 2 ^ l * (2 * p + 1) ≤ 65536 * (2 * p + 1) := Nat.mul_le_mul_right _ hle
    omega
  have hand := low_bit l p hl hp
  rw [hn] at hand
  obtain ⟨N2, hN2⟩ : ∃ N2, 18446744073709551616 - n = N2 := ⟨_, rfl⟩
  rw [hN2] at hand
  have x1 : IntKind.u64.wrap (-(n : Int)) = (N2 : Int) := by rw [IntKind.wrap_u64]; omega
  have x2 := u64_and_nat n N2 (by omega) (by omega)
  rw [hand] at x2
  obtain ⟨M, J, hM, hJ, hJ64, hg⟩ := bru_at l (by omega)
  obtain ⟨B, hB⟩ : ∃ B, 2 ^ l = B := ⟨_, rfl⟩
  rw [hB] at hM x2
  have x3 : IntKind.u64.wrap ((B : Int) * 285870213051353865) = (M : Int) := by rw [IntKind.wrap_u64]; omega
  have x4 : (M : Int) / 288230376151711744 = (J : Int) := by omega
  have x5 := hT.cell J hJ64
  rw [hg] at x5
  have hb := hT.lt
  have y0 : ((n : Int) == 0) = false := by rw [beq_eq_false_iff_ne]; omega
  have b3 : (J : Int) < 64 := by omega
  clear hN2 hand hM hJ hg hB h2 hle hn hn1 hn2 hJ64 hp
  go_enter Tryz.func118, Tryz.ntmps118
  go_wp2
  go_ret
  exact ⟨rfl, rfl⟩
theorem tz_is (n l p : Nat) (w : World) (hT : Tab w) (hn : 2 ^ l * (2 * p + 1) = n) (hl : l ≤ 16) (hp : p < 65536) :
    Calls Tryz.prog 99 #[.int .u64 (n : Int)] w fun e w' => e = .returned (.int .i64 (l : Int)) ∧ w = w' := by
  have C1 := Lib.hid (tz64_is n l p w hT hn hl hp)
  clear hn hT
  go_enter Tryz.func99, Tryz.ntmps99
  go_wp2_with (first | (go_at_call 118; refine C1.out.mono ?_; rintro e' w' ⟨rfl, rfl⟩) | go_in)
  go_ret
  exact ⟨rfl, rfl⟩

set_option maxHeartbeats 1000000 in
theorem at_is (i l p x y : Nat) (w : World) (hT : Tab w) (hn : 2 ^ l * (2 * p + 1) = i + 1) (hl : l ≤ 16) (hp : p < 2 ^ (16 - l)) (hw : Ws (l, p) x y) :
    Calls Tryz.prog 73 #[.int .i64 (i : Int)] w fun e w' => e = .returned (.complex .f64 x y) ∧ w = w' := by
  have hp6 : p < 65536 := by have := pow_le (16 - l) (by omega); omega
  have hi := number_lt hp hl
  rw [Nat.mul_comm, hn] at hi
  obtain ⟨n, hn'⟩ : ∃ n, i + 1 = n := ⟨_, rfl⟩
  rw [hn'] at hn hi
  have x1 : (i : Int) + 1 = (n : Int) := by omega
  have hdiv : n / 2 ^ (l + 1) = p := by
    rw [← hn, Nat.pow_succ, Nat.mul_comm (2 ^ l) 2, ← Nat.div_div_eq_div_mul, Nat.mul_comm (2 ^ l), ← Nat.mul_comm]
    have h2 := Nat.two_pow_pos l
    rw [Nat.div_div_eq_div_mul, Nat.mul_comm 2 (2 ^ l), ← Nat.div_div_eq_div_mul, Nat.mul_div_cancel_left _ h2]
    omega
  obtain ⟨l1, hl1⟩ : ∃ l1, l + 1 = l1 := ⟨_, rfl⟩
  have x2 : (l : Int) + 1 = (l1 : Int) := by omega
  rw [hl1] at hdiv
  have x3 : (n : Int) / 2 ^ l1 = (p : Int) := by rw [← hdiv]; simp
  have C1 := Lib.hid (tz_is n l p w hT hn hl hp6)
  have C2 := Lib.hid (spotOf_is l p x y w hw)
  have y1 : ¬ ((i : Int) < 0) := by omega
  have y2 : ¬ ((131071 : Int) ≤ (i : Int)) := by omega
  have b1 : (n : Int) ≤ 131071 := by omega
  have b2 : (l1 : Int) ≤ 17 := by omega
  clear hT hn hp hw hp6 hi hdiv hn' hl1
  go_enter Tryz.func73, Tryz.ntmps73
  go_wp2_with (first | (go_at_call 99; refine C1.out.mono ?_; rintro e' w' ⟨rfl, rfl⟩) | (go_at_call 100; refine C2.out.mono ?_; rintro e' w' ⟨rfl, rfl⟩) | go_in)
  go_ret
  exact ⟨rfl, rfl⟩
end Go.Proofs.YtakglldffpnlaaaGreatDoor.Sp

namespace Go.Proofs.YtakglldffpnlaaaGreatDoor.Fl
set_option linter.all false
set_option maxRecDepth 100000
open Ieee

/-- the word of a whole number that is not nought, by its fields -/
theorem fields {q : Nat} (hz : q ≠ 0) (h : q < 2 ^ 53) : ∃ f, fl q = (q.log2 + 1023) * 2 ^ 52 + f ∧ f < 2 ^ 52 ∧ f + 2 ^ 52 = q * 2 ^ (52 - q.log2) := by
  have h1 := sig_lo q hz h
  have h2 := sig_hi q h
  have hl := log2_le q h
  refine ⟨q * 2 ^ (52 - q.log2) - 2 ^ 52, ?_, by omega, by omega⟩
  rw [fl_word q h]
  unfold word rung
  rw [if_neg hz]
  omega
theorem read_pos {q : Nat} (hz : q ≠ 0) (h : q < 2 ^ 53) : ∃ k : Nat, k ≤ 52 ∧ double.read (fl q) = .number false (q * 2 ^ k) (-(k : Int)) := by
  have hl := log2_le q h
  refine ⟨52 - q.log2, by omega, ?_⟩
  rw [fl_word q h]
  unfold word rung
  rw [if_neg hz, read_gen _ _ (sig_lo q hz h) (sig_hi q h) (by omega)]
  have e : ((q.log2 + 1022 - 0 : Nat) : Int) - 1074 = -((52 - q.log2 : Nat) : Int) := by omega
  rw [e]
/-- no whole number that is not nought is below the smallest normal one -/
theorem normal {q : Nat} (hz : q ≠ 0) (h : q < 2 ^ 52) : double.order (fl q) 4503599627370496 = some .gt := by
  obtain ⟨k, hk, hr⟩ := read_pos hz (by omega)
  have h2 : double.read 4503599627370496 = .number false (2 ^ 52) (-1074) := by
    have := read_gen 0 (2 ^ 52) (by decide) (by decide) (by decide)
    simpa using this
  rw [Format.order, hr, h2]
  simp only [Datum.order, signed_false]
  obtain ⟨J, hJ⟩ : ∃ J : Nat, J = 1074 := ⟨_, rfl⟩
  rw [show (-(k : Int) - min (-(k : Int)) (-1074)).toNat = J - k by omega, show (-1074 - min (-(k : Int)) (-1074)).toNat = 0 by omega]
  rw [Int.compare_eq_gt.2]
  refine Int.ofNat_lt.2 ?_
  rw [Nat.mul_assoc q, ← Nat.pow_add 2 k]
  have e : 2 ^ 53 ≤ 2 ^ (k + (J - k)) := Nat.pow_le_pow_right (by decide) (by omega)
  generalize 2 ^ (k + (J - k)) = P at *
  have : P ≤ q * P := Nat.le_mul_of_pos_left _ (by omega)
  omega
/-- every whole number is below the greatest one -/
theorem finite {q : Nat} (h : q < 2 ^ 52) : double.order (fl q) 9218868437227405311 = some .lt := by
  obtain ⟨k, hr⟩ := read_fl q (by omega)
  have h2 : double.read 9218868437227405311 = .number false (2 ^ 53 - 1) 971 := by
    have := read_gen 2045 (2 ^ 53 - 1) (by decide) (by decide) (by decide)
    simpa using this
  rw [Format.order, hr, h2]
  simp only [Datum.order, signed_false]
  obtain ⟨j, hj⟩ : ∃ j : Nat, j = 971 := ⟨_, rfl⟩
  rw [show (-(k : Int) - min (-(k : Int)) 971).toNat = 0 by omega, show (971 - min (-(k : Int)) 971).toNat = j + k by omega]
  clear hj
  congr 1
  refine Int.compare_eq_lt.2 (Int.ofNat_lt.2 ?_)
  have hp := Nat.two_pow_pos k
  have h3 := Nat.two_pow_pos j
  rw [Nat.pow_zero, Nat.mul_one, Nat.pow_add, ← Nat.mul_assoc]
  refine Nat.mul_lt_mul_of_pos_right ?_ hp
  have : 2 ^ 53 - 1 ≤ (2 ^ 53 - 1) * 2 ^ j := Nat.le_mul_of_pos_right _ h3
  omega

theorem and_fields (a b c d : Nat) (hb : b < 2 ^ 52) (hd : d < 2 ^ 52) : (2 ^ 52 * a + b) &&& (2 ^ 52 * c + d) = 2 ^ 52 * (a &&& c) + (b &&& d) := by
  have hbd : b &&& d < 2 ^ 52 := Nat.and_lt_two_pow _ hd
  apply Nat.eq_of_testBit_eq
  intro i
  rw [Nat.testBit_and, Nat.testBit_two_pow_mul_add _ hb, Nat.testBit_two_pow_mul_add _ hd, Nat.testBit_two_pow_mul_add _ hbd]
  split <;> rw [Nat.testBit_and]
/-- the exponent is struck out -/
theorem strike (c f : Nat) (hc : c < 2048) (hf : f < 2 ^ 52) : bits .andNot .u64 ((c * 2 ^ 52 + f : Nat) : Int) (9218868437227405312 : Int) = (f : Int) := by
  have h := u64_andNot_nat (c * 2 ^ 52 + f) 9218868437227405312 (by omega) (by decide)
  rw [show ((9218868437227405312 : Nat) : Int) = 9218868437227405312 from rfl] at h
  rw [h, show 18446744073709551615 - 9218868437227405312 = 2 ^ 52 * 2048 + (2 ^ 52 - 1) by decide, Nat.mul_comm c, and_fields _ _ _ _ hf (by decide)]
  rw [Nat.and_two_pow_sub_one_eq_mod, Nat.mod_eq_of_lt hf]
  have : c &&& 2048 = 0 := by
    apply Nat.eq_of_testBit_eq
    intro i
    rw [Nat.testBit_and, show 2048 = 2 ^ 11 from rfl, Nat.testBit_two_pow, Nat.zero_testBit]
    by_cases h : 11 = i
    · subst h; rw [Nat.testBit_lt_two_pow hc]; rfl
    · rw [decide_eq_false h, Bool.and_false]
  rw [this]; simp
theorem put_in (c f : Nat) (hc : c < 2048) (hf : f < 2 ^ 52) : bits .or .u64 (f : Int) ((c * 2 ^ 52 : Nat) : Int) = ((c * 2 ^ 52 + f : Nat) : Int) := by
  rw [u64_or_nat f (c * 2 ^ 52) (by omega) (by omega), Nat.or_comm, Nat.mul_comm c, Nat.two_pow_add_eq_or_of_lt hf]
theorem and_mask (c : Nat) (hc : c < 2048) : bits .and .u64 (c : Int) (2047 : Int) = (c : Int) := by
  have h := u64_and_nat c 2047 (by omega) (by decide)
  rw [show ((2047 : Nat) : Int) = 2047 from rfl] at h
  rw [h, show 2047 = 2 ^ 11 - 1 from rfl, Nat.and_two_pow_sub_one_eq_mod, Nat.mod_eq_of_lt hc]
theorem fl_pow (l : Nat) (h : l ≤ 52) : fl (2 ^ l) = (l + 1023) * 2 ^ 52 := by
  have h1 : 2 ^ l ≠ 0 := by have := Nat.two_pow_pos l; omega
  have h2 : 2 ^ l < 2 ^ 53 := Nat.pow_lt_pow_right (by decide) (by omega)
  obtain ⟨f, hf, -, hf2⟩ := fields h1 h2
  rw [Nat.log2_two_pow] at hf hf2
  rw [← Nat.pow_add, show l + (52 - l) = 52 by omega] at hf2
  have e : f = 0 := by omega
  rw [hf, e, Nat.add_zero]
/-- the order of two words without a sign, of one exponent -/
theorem order_half (f : Nat) (h : f < 2 ^ 52) : double.order (1022 * 2 ^ 52 + f) 4602678819172646912 = some .gt ∨ double.order (1022 * 2 ^ 52 + f) 4602678819172646912 = some .eq := by
  have h1 : double.read (1022 * 2 ^ 52 + f) = .number false (2 ^ 52 + f) (-53) := by
    have := read_gen 1021 (2 ^ 52 + f) (by omega) (by omega) (by decide)
    rw [show 1022 * 2 ^ 52 + f = 1021 * 2 ^ 52 + (2 ^ 52 + f) by omega, this]; rfl
  have h2 : double.read 4602678819172646912 = .number false (2 ^ 52) (-53) := by
    have := read_gen 1021 (2 ^ 52) (by decide) (by decide) (by decide)
    simpa using this
  rw [Format.order, h1, h2]
  simp only [Datum.order, signed_false]
  rcases Nat.eq_zero_or_pos f with e | e
  · right; rw [Int.compare_eq_eq.2 (by rw [e, Nat.add_zero])]
  · left; rw [Int.compare_eq_gt.2 (Int.ofNat_lt.2 (Nat.mul_lt_mul_of_pos_right (by omega) (Nat.two_pow_pos _)))]
end Go.Proofs.YtakglldffpnlaaaGreatDoor.Fl

namespace Go.Proofs.YtakglldffpnlaaaGreatDoor.Sp
set_option linter.all false
set_option maxRecDepth 100000
open Go.RowKit Fl

/-- the word x is a whole number that is not nought: how it stands to others, and its fields -/
structure Pos (x q : Nat) : Prop where
  is : fl q = x
  lo : 1 ≤ q
  hi : q < 131072
section
variable {x q : Nat}
theorem Pos.zero (h : Pos x q) : FloatKind.f64.format.order x 0 = some .gt := by
  have h1 := h.lo; have h2 := h.hi
  have := order_nz (nz_fl q) (nz_fl 0) (by omega) (by decide)
  rw [fl0, h.is, Nat.compare_eq_gt.2 (by omega)] at this
  exact this
theorem Pos.normal (h : Pos x q) : FloatKind.f64.format.order x 4503599627370496 = some .gt := by
  have h1 := h.lo; have h2 := h.hi
  have := Fl.normal (q := q) (by omega) (by omega)
  rw [h.is] at this; exact this
theorem Pos.finite (h : Pos x q) : FloatKind.f64.format.order x 9218868437227405311 = some .lt := by
  have h2 := h.hi
  have := Fl.finite (q := q) (by omega)
  rw [h.is] at this; exact this
theorem Pos.same (h : Pos x q) : FloatKind.f64.format.order x x = some .eq := by
  have h2 := h.hi
  have := order_nz (nz_fl q) (nz_fl q) (by omega) (by omega)
  rw [h.is, Nat.compare_eq_eq.2 rfl] at this; exact this
theorem Pos.abs (h : Pos x q) : Ab x x := ⟨q, by have := h.hi; omega, .inl h.is.symm, h.is⟩
end

set_option maxHeartbeats 1000000 in
theorem isNaN_is (x q : Nat) (w : World) (h : Pos x q) : Calls Tryz.prog 130 #[.float .f64 x] w fun e w' => e = .returned (.bool false) ∧ w = w' := by
  have o := h.same
  clear h
  go_enter Tryz.func130, Tryz.ntmps130
  go_wp2
  go_ret
  exact ⟨rfl, rfl⟩
set_option maxHeartbeats 1000000 in
theorem isInf_is (x q : Nat) (w : World) (h : Pos x q) : Calls Tryz.prog 131 #[.float .f64 x, .int .i64 0] w fun e w' => e = .returned (.bool false) ∧ w = w' := by
  have o := h.finite
  have C1 := Lib.hid h.abs
  clear h
  go_enter Tryz.func131, Tryz.ntmps131
  go_wp2_with (first | (go_at_call 114; refine (abs_at C1.out _).mono ?_; rintro e' w' ⟨rfl, rfl⟩) | go_in)
  go_ret
  exact ⟨rfl, rfl⟩
end Go.Proofs.YtakglldffpnlaaaGreatDoor.Sp

namespace Go.Proofs.YtakglldffpnlaaaGreatDoor.Sp
set_option linter.all false
set_option maxRecDepth 100000
open Go.RowKit Fl

theorem two_pos : Pos 4611686018427387904 2 := ⟨fl2, by decide, by decide⟩

theorem zero_ab : Ab 0 0 := ⟨0, by decide, .inl fl0.symm, fl0⟩
set_option maxHeartbeats 1000000 in
theorem isNaN_any (x q : Nat) (w : World) (hx : fl q = x) (hq : q < 131072) : Calls Tryz.prog 130 #[.float .f64 x] w fun e w' => e = .returned (.bool false) ∧ w = w' := by
  by_cases h : q = 0
  · subst h
    obtain rfl : 0 = x := by rw [← hx]; exact fl0.symm
    have o : FloatKind.f64.format.order 0 0 = some .eq := by decide
    clear hx
    go_enter Tryz.func130, Tryz.ntmps130
    go_wp2
    go_ret
    exact ⟨rfl, rfl⟩
  · exact isNaN_is x q w ⟨hx, by omega, hq⟩
set_option maxHeartbeats 1000000 in
theorem isInf_any (x q : Nat) (w : World) (hx : fl q = x) (hq : q < 131072) : Calls Tryz.prog 131 #[.float .f64 x, .int .i64 0] w fun e w' => e = .returned (.bool false) ∧ w = w' := by
  by_cases h : q = 0
  · subst h
    obtain rfl : 0 = x := by rw [← hx]; exact fl0.symm
    have o : FloatKind.f64.format.order 0 9218868437227405311 = some .lt := by have := Fl.finite (q := 0) (by decide); rw [fl0] at this; exact this
    have C1 := Lib.hid zero_ab
    clear hx
    go_enter Tryz.func131, Tryz.ntmps131
    go_wp2_with (first | (go_at_call 114; refine (abs_at C1.out _).mono ?_; rintro e' w' ⟨rfl, rfl⟩) | go_in)
    go_ret
    exact ⟨rfl, rfl⟩
  · exact isInf_is x q w ⟨hx, by omega, hq⟩

/-- which whole number a value is -/
def wholeOf : Value → Nat
  | .float _ b => (((Ieee.double.read b).toInt .zero).getD 0).toNat
  | _ => 0
theorem wholeOf_fl (k : FloatKind) (q : Nat) (h : q < 2 ^ 53) : wholeOf (.float k (fl q)) = q := by
  simp [wholeOf, Fl.toInt q h]

theorem odd_step {k : Nat} (h : 2 ≤ k) (hk : k < 2 ^ 53) : (k - 2 ^ k.log2) % 2 = k % 2 ∧ 2 ^ k.log2 ≤ k ∧ 1 ≤ 2 ^ k.log2 ∧ k.log2 ≤ 52 := by
  have h1 := Nat.log2_self_le (n := k) (by omega)
  have h2 : 1 ≤ k.log2 := by rw [Nat.le_log2 (by omega)]; exact h
  have h3 : 2 ^ k.log2 = 2 * 2 ^ (k.log2 - 1) := by rw [← Nat.pow_succ']; congr 1; omega
  have h4 := Nat.two_pow_pos k.log2
  have h5 := log2_le k hk
  omega

/-- the spot beside -/
def otherF : Option (Nat × Nat) → Nat × Nat
  | some (l, p) => if l = 16 then (0, 0) else (l, p + 1 - 2 * (p % 2))
  | none => (0, 0)
theorem pow_half {l p : Nat} (h : p < 2 ^ (16 - l)) (hl : l ≤ 16) (h16 : l ≠ 16) : p / 2 < 2 ^ (16 - (l + 1)) ∧ 2 ^ (16 - l) = 2 * 2 ^ (16 - (l + 1)) := by
  have e : 2 ^ (16 - l) = 2 * 2 ^ (16 - (l + 1)) := by rw [← Nat.pow_succ']; congr 1; omega
  omega
/-- what Up tells is a spot, always -/
theorem is_up {re im : Nat} {o : Option (Nat × Nat)} (h : Is re im o) : Is (fl (upF o).1) (fl (upF o).2) (some (upF o)) := by
  rcases o with _ | ⟨l, p⟩
  · exact ⟨nz_fl _, nz_fl _, by decide, by decide⟩
  · have hs : Spot re im 16 l p := h
    by_cases h16 : l = 16
    · simp only [upF, if_pos h16]
      exact ⟨nz_fl _, nz_fl _, by decide, by decide⟩
    · simp only [upF, if_neg h16]
      exact ⟨nz_fl _, nz_fl _, by have := hs.lev; omega, (pow_half hs.pl hs.lev h16).1⟩

end Go.Proofs.YtakglldffpnlaaaGreatDoor.Sp
