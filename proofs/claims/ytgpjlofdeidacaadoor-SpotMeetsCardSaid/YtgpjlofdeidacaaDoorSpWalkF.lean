/- Walks: TrailingZeros, At. -/
import Derived.Test.YtgpjlofdeidacaaDoorSpWalkE
namespace Go.Proofs.YtgpjlofdeidacaaDoor.Sp
set_option linter.all false
open Go.RowKit Fl

/-- the table that package math/bits looks trailing noughts up in -/
def bru : List Nat := [0, 1, 56, 2, 57, 49, 28, 3, 61, 58, 42, 50, 38, 29, 17, 4, 62, 47, 59, 36, 45, 43, 51, 22, 53, 39, 33, 30, 24, 18, 12, 5, 63, 55, 48, 27, 60, 41, 37, 16, 46, 35, 44, 21, 52, 32, 23, 11, 54, 26, 40, 15, 34, 20, 31, 10, 25, 14, 19, 9, 13, 8, 7, 6]
def gt (l : List Nat) (i : Nat) : Nat := l.getD i 0
def numsOf (k : IntKind) (l : List Nat) : Array Value := (l.map fun x => Value.int k ((x : Nat) : Int)).toArray
theorem numsOf_at (k : IntKind) (l : List Nat) (i : Nat) (h : i < l.length) : (numsOf k l)[i]? = some (.int k ((gt l i : Nat) : Int)) := by
  simp [numsOf, gt, List.getD_eq_getElem?_getD, h]
def Tab (w : World) : Prop := ∃ t fr, w.heap[2]? = some (.cells (numsOf .u8 bru) t fr)
theorem Tab.lt {w : World} (h : Tab w) : 2 < w.heap.size := by
  obtain ⟨t, fr, h⟩ := h
  exact (Array.getElem?_eq_some_iff.1 h).1
theorem Tab.cell {w : World} (h : Tab w) (i : Nat) (hi : i < 64) : w.cell? ⟨2, i, none⟩ = some (.int .u8 ((gt bru i : Nat) : Int)) := by
  obtain ⟨t, fr, h⟩ := h
  have h2 := numsOf_at .u8 bru i hi
  simp [World.cell?, h, h2]
theorem Tab.below {w w' : World} (h : Tab w) (hb : Below w.heap.size w w') : Tab w' := by
  have hl := h.lt
  obtain ⟨t, fr, h⟩ := h
  exact ⟨t, fr, (hb.block _ hl).trans h⟩

theorem low_bit (l p : Nat) (hl : l ≤ 16) (hp : p < 65536) : ((2 ^ l * (2 * p + 1)) &&& (18446744073709551616 - 2 ^ l * (2 * p + 1))) = 2 ^ l := by
  have h2 := Nat.two_pow_pos l
  have hle : 2 ^ l ≤ 65536 := pow_le l hl
  have hn : 2 ^ l * (2 * p + 1) = 2 ^ l * (2 * p) + (2 ^ l - 1) + 1 := by rw [Nat.mul_add, Nat.mul_one]; omega
  have hlt : 2 ^ l * (2 * p) + (2 ^ l - 1) < 2 ^ 64 := by
    have : 2 ^ l * (2 * p) ≤ 65536 * (2 * p) := Nat.mul_le_mul_right _ hle
    omega
  apply Nat.eq_of_testBit_eq
  intro i
  rw [Nat.testBit_and, show 18446744073709551616 - 2 ^ l * (2 * p + 1) = 2 ^ 64 - ((2 ^ l * (2 * p) + (2 ^ l - 1)) + 1) by rw [← hn], Nat.testBit_two_pow_sub_succ hlt,
    Nat.testBit_two_pow_mul_add _ (by omega), Nat.testBit_two_pow_mul, Nat.testBit_two_pow]
  rcases Nat.lt_trichotomy i l with h | h | h
  · have e1 : decide (i ≥ l) = false := decide_eq_false (by omega)
    have e2 : decide (l = i) = false := decide_eq_false (by omega)
    rw [e1, e2]; simp
  · subst h
    have e3 : (2 * p + 1).testBit 0 = true := by simp
    have e4 : (2 * p).testBit 0 = false := by simp
    have e5 : i < 64 := by omega
    simp [e3, e4, e5]
  · obtain ⟨k, rfl⟩ : ∃ k, i = l + (k + 1) := ⟨i - l - 1, by omega⟩
    have e1 : (2 * p + 1).testBit (k + 1) = p.testBit k := by rw [Nat.testBit_succ]; congr 1; omega
    have e2 : (2 * p).testBit (k + 1) = p.testBit k := by rw [Nat.testBit_succ]; congr 1; omega
    have e3 : l + (k + 1) - l = k + 1 := by omega
    have e4 : ¬ (l + (k + 1) < l) := by omega
    have e5 : decide (l = l + (k + 1)) = false := decide_eq_false (by omega)
    rw [e3, e1, if_neg e4, e2, e5]
    cases p.testBit k <;> simp

theorem bru_at : ∀ l, l < 17 → ∃ M J, 2 ^ l * 285870213051353865 % 18446744073709551616 = M ∧ M / 288230376151711744 = J ∧ J < 64 ∧ gt bru J = l := by
  have h : ∀ l, l < 17 → 2 ^ l * 285870213051353865 % 18446744073709551616 / 288230376151711744 < 64 ∧ gt bru (2 ^ l * 285870213051353865 % 18446744073709551616 / 288230376151711744) = l := by decide +kernel
  intro l hl
  obtain ⟨h1, h2⟩ := h l hl
  exact ⟨_, _, rfl, rfl, h1, h2⟩

set_option maxHeartbeats 1000000 in
set_option maxRecDepth 100000 in
theorem tz64_is (n l p : Nat) (w : World) (hT : Tab w) (hn : 2 ^ l * (2 * p + 1) = n) (hl : l ≤ 16) (hp : p < 65536) :
    Calls Tryd.prog 45 #[.int .u64 (n : Int)] w fun e w' => e = .returned (.int .i64 (l : Int)) ∧ w = w' := by
  have hle : 2 ^ l ≤ 65536 := pow_le l hl
  have h2 := Nat.two_pow_pos l
  have hn1 : 1 ≤ n := by rw [← hn]; exact Nat.mul_pos h2 (by omega)
  have hn2 : n < 18446744073709551616 := by
    rw [← hn]
    have : 2 ^ l * (2 * p + 1) ≤ 65536 * (2 * p + 1) := Nat.mul_le_mul_right _ hle
    omega
  have hand := low_bit l p hl hp
  rw [hn] at hand
  obtain ⟨N2, hN2⟩ : ∃ N2, 18446744073709551616 - n = N2 := ⟨_, rfl⟩
  rw [hN2] at hand
  have x1 : IntKind.u64.wrap (-(n : Int)) = (N2 : Int) := by rw [IntKind.wrap_u64]; omega
  have x2 := u64_and_nat n N2 (by omega) (by omega)
  rw [hand] at x2
  obtain ⟨M, J, hM, hJ, hJ64, hg⟩ := bru_at l (by omega)
  obtain ⟨B, hB⟩ : ∃ B, 2 ^ l = B := ⟨_, rfl⟩
  rw [hB] at hM x2
  have x3 : IntKind.u64.wrap ((B : Int) * 285870213051353865) = (M : Int) := by rw [IntKind.wrap_u64]; omega
  have x4 : (M : Int) / 288230376151711744 = (J : Int) := by omega
  have x5 := hT.cell J hJ64
  rw [hg] at x5
  have hb := hT.lt
  have y0 : ((n : Int) == 0) = false := by rw [beq_eq_false_iff_ne]; omega
  have b3 : (J : Int) < 64 := by omega
  clear hN2 hand hM hJ hg hB h2 hle hn hn1 hn2 hJ64 hp
  go_enter Tryd.func45, Tryd.ntmps45
  go_wp2
  go_ret
  exact ⟨rfl, rfl⟩
theorem tz_is (n l p : Nat) (w : World) (hT : Tab w) (hn : 2 ^ l * (2 * p + 1) = n) (hl : l ≤ 16) (hp : p < 65536) :
    Calls Tryd.prog 36 #[.int .u64 (n : Int)] w fun e w' => e = .returned (.int .i64 (l : Int)) ∧ w = w' := by
  have C1 := Lib.hid (tz64_is n l p w hT hn hl hp)
  clear hn hT
  go_enter Tryd.func36, Tryd.ntmps36
  go_wp2_with (first | (go_at_call 45; refine C1.out.mono ?_; rintro e' w' ⟨rfl, rfl⟩) | go_in)
  go_ret
  exact ⟨rfl, rfl⟩

set_option maxHeartbeats 1000000 in
theorem at_is (i l p x y : Nat) (w : World) (hT : Tab w) (hn : 2 ^ l * (2 * p + 1) = i + 1) (hl : l ≤ 16) (hp : p < 2 ^ (16 - l)) (hw : Ws (l, p) x y) :
    Calls Tryd.prog 22 #[.int .i64 (i : Int)] w fun e w' => e = .returned (.complex .f64 x y) ∧ w = w' := by
  have hp6 : p < 65536 := by have := pow_le (16 - l) (by omega); omega
  have hi := number_lt hp hl
  rw [Nat.mul_comm, hn] at hi
  obtain ⟨n, hn'⟩ : ∃ n, i + 1 = n := ⟨_, rfl⟩
  rw [hn'] at hn hi
  have x1 : (i : Int) + 1 = (n : Int) := by omega
  have hdiv : n / 2 ^ (l + 1) = p := by
    rw [← hn, Nat.pow_succ, Nat.mul_comm (2 ^ l) 2, ← Nat.div_div_eq_div_mul, Nat.mul_comm (2 ^ l), ← Nat.mul_comm]
    have h2 := Nat.two_pow_pos l
    rw [Nat.div_div_eq_div_mul, Nat.mul_comm 2 (2 ^ l), ← Nat.div_div_eq_div_mul, Nat.mul_div_cancel_left _ h2]
    omega
  obtain ⟨l1, hl1⟩ : ∃ l1, l + 1 = l1 := ⟨_, rfl⟩
  have x2 : (l : Int) + 1 = (l1 : Int) := by omega
  rw [hl1] at hdiv
  have x3 : (n : Int) / 2 ^ l1 = (p : Int) := by rw [← hdiv]; simp
  have C1 := Lib.hid (tz_is n l p w hT hn hl hp6)
  have C2 := Lib.hid (spotOf_is l p x y w hw)
  have y1 : ¬ ((i : Int) < 0) := by omega
  have y2 : ¬ ((131071 : Int) ≤ (i : Int)) := by omega
  have b1 : (n : Int) ≤ 131071 := by omega
  have b2 : (l1 : Int) ≤ 17 := by omega
  clear hT hn hp hw hp6 hi hdiv hn' hl1
  go_enter Tryd.func22, Tryd.ntmps22
  go_wp2_with (first | (go_at_call 36; refine C1.out.mono ?_; rintro e' w' ⟨rfl, rfl⟩) | (go_at_call 37; refine C2.out.mono ?_; rintro e' w' ⟨rfl, rfl⟩) | go_in)
  go_ret
  exact ⟨rfl, rfl⟩
end Go.Proofs.YtgpjlofdeidacaaDoor.Sp
