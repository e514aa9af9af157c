/- Plain mathematics of layer 5: a great number's groups of bits, numbers squeezed and stretched, small numbers, drawn numbers; nothing of the program. -/
import Derived.Lib.Hide
namespace Go.Proofs.YtdkhiooiakdecaaDoorR.Kp
set_option linter.all false

/-- n words of h bits each, as one great number, the first lowest -/
def num (h : Nat) (f : Nat → Nat) : Nat → Nat
  | 0 => 0
  | n + 1 => num h f n + f n * 2 ^ (h * n)
/-- group j of w bits -/
def grp (w M j : Nat) : Nat := M / 2 ^ (w * j) % 2 ^ w
theorem grp_lt (w M j : Nat) : grp w M j < 2 ^ w := Nat.mod_lt _ (Nat.two_pow_pos _)
theorem num_succ (h : Nat) (f : Nat → Nat) (n : Nat) : num h f (n + 1) = num h f n + f n * 2 ^ (h * n) := rfl
theorem num_lt {h : Nat} {f : Nat → Nat} : ∀ n, (∀ i, i < n → f i < 2 ^ h) → num h f n < 2 ^ (h * n)
  | 0, _ => by simp [num]
  | n + 1, hf => by
    have h1 := num_lt n fun i hi => hf i (by omega)
    have h2 := hf n (by omega)
    rw [num_succ, Nat.mul_add, Nat.pow_add, Nat.mul_one]
    have h3 : (f n + 1) * 2 ^ (h * n) ≤ 2 ^ h * 2 ^ (h * n) := Nat.mul_le_mul_right _ h2
    rw [Nat.add_mul, Nat.one_mul] at h3
    rw [Nat.mul_comm (2 ^ (h * n))]
    omega
theorem num_congr {h : Nat} {f g : Nat → Nat} : ∀ n, (∀ i, i < n → f i = g i) → num h f n = num h g n
  | 0, _ => rfl
  | n + 1, e => by rw [num_succ, num_succ, num_congr n fun i hi => e i (by omega), e n (by omega)]
/-- what comes behind does not touch the bits ahead -/
theorem num_mod {h : Nat} {f : Nat → Nat} (hf : ∀ i, f i < 2 ^ h) (n : Nat) : ∀ m, num h f (n + m) % 2 ^ (h * n) = num h f n
  | 0 => Nat.mod_eq_of_lt (num_lt n fun i _ => hf i)
  | m + 1 => by
    rw [← Nat.add_assoc, num_succ, Nat.mul_add, Nat.pow_add, ← Nat.mul_assoc, Nat.mul_right_comm, Nat.add_mul_mod_self_right]
    exact num_mod hf n m
theorem div_mod_low (x t w : Nat) : x / 2 ^ t % 2 ^ w = x % 2 ^ (t + w) / 2 ^ t := by
  rw [Nat.pow_add, Nat.mod_mul_right_div_self]
theorem low_grp {x y s t w : Nat} (h : x % 2 ^ s = y % 2 ^ s) (ht : t + w ≤ s) : x / 2 ^ t % 2 ^ w = y / 2 ^ t % 2 ^ w := by
  rw [div_mod_low, div_mod_low]
  have e : ∀ z : Nat, z % 2 ^ (t + w) = z % 2 ^ s % 2 ^ (t + w) := fun z => by
    rw [Nat.mod_mod_of_dvd]; exact Nat.pow_dvd_pow 2 ht
  rw [e x, e y, h]
theorem num_dig {h : Nat} {f : Nat → Nat} (hf : ∀ i, f i < 2 ^ h) (n i : Nat) (hi : i < n) : grp h (num h f n) i = f i := by
  unfold grp
  have h1 : num h f n % 2 ^ (h * (i + 1)) = num h f (i + 1) % 2 ^ (h * (i + 1)) := by
    have := num_mod hf (i + 1) (n - (i + 1))
    rw [show i + 1 + (n - (i + 1)) = n by omega] at this
    rw [this, Nat.mod_eq_of_lt (num_lt _ fun i _ => hf i)]
  rw [low_grp (s := h * (i + 1)) h1 (by rw [Nat.mul_add]; omega), num_succ, Nat.add_mul_div_right _ _ (Nat.two_pow_pos _), Nat.div_eq_of_lt (num_lt _ fun i _ => hf i), Nat.zero_add, Nat.mod_eq_of_lt (hf i)]
theorem num_grp (h M : Nat) : ∀ n, num h (grp h M) n = M % 2 ^ (h * n)
  | 0 => by simp [num, Nat.mod_one]
  | n + 1 => by
    rw [num_succ, num_grp h M n]
    unfold grp
    rw [Nat.mul_add h n 1, Nat.mul_one, Nat.pow_add, Nat.mod_mul, Nat.mul_comm (2 ^ (h * n)) (M / 2 ^ (h * n) % 2 ^ h)]
theorem grp_ext {h : Nat} {M K n : Nat} (hM : M < 2 ^ (h * n)) (hK : K < 2 ^ (h * n)) (e : ∀ i, i < n → grp h M i = grp h K i) : M = K := by
  have h1 := num_grp h M n
  have h2 := num_grp h K n
  rw [num_congr n e, h2, Nat.mod_eq_of_lt hK, Nat.mod_eq_of_lt hM] at h1
  exact h1.symm

/-! ### Regrouping, word by word -/
/-- what is at hand behind i words, of which j groups were told -/
def left (h : Nat) (f : Nat → Nat) (w i j : Nat) : Nat := num h f i / 2 ^ (w * j)
theorem left_lt {h : Nat} {f : Nat → Nat} (hf : ∀ i, f i < 2 ^ h) {w i j : Nat} (hj : w * j ≤ h * i) : left h f w i j < 2 ^ (h * i - w * j) := by
  unfold left
  rw [Nat.div_lt_iff_lt_mul (Nat.two_pow_pos _), ← Nat.pow_add, Nat.sub_add_cancel hj]
  exact num_lt i fun k _ => hf k
theorem left_word {h : Nat} {f : Nat → Nat} {w i j : Nat} (hj : w * j ≤ h * i) : left h f w (i + 1) j = left h f w i j + f i * 2 ^ (h * i - w * j) := by
  unfold left
  rw [num_succ]
  have e : 2 ^ (h * i) = 2 ^ (h * i - w * j) * 2 ^ (w * j) := by rw [← Nat.pow_add, Nat.sub_add_cancel hj]
  rw [e, ← Nat.mul_assoc, Nat.add_mul_div_right _ _ (Nat.two_pow_pos _)]
theorem left_told (h : Nat) (f : Nat → Nat) (w i j : Nat) : left h f w i (j + 1) = left h f w i j / 2 ^ w := by
  unfold left
  rw [Nat.mul_add, Nat.mul_one, Nat.pow_add, Nat.div_div_eq_div_mul]
theorem left_grp {h : Nat} {f : Nat → Nat} (hf : ∀ i, f i < 2 ^ h) {w i j n : Nat} (hi : i ≤ n) (hj : w * (j + 1) ≤ h * i) : left h f w i j % 2 ^ w = grp w (num h f n) j := by
  unfold left grp
  refine (low_grp (s := h * i) ?_ (by rw [Nat.mul_add] at hj; omega)).symm
  have := num_mod hf i (n - i)
  rw [show i + (n - i) = n by omega] at this
  rw [this, Nat.mod_eq_of_lt (num_lt _ fun i _ => hf i)]

/-! ### Bits by bits -/
def bt (M i : Nat) : Nat := M / 2 ^ i % 2
theorem bt_lt (M i : Nat) : bt M i < 2 := Nat.mod_lt _ (by omega)
theorem grp_bit (M d i k : Nat) : M / 2 ^ (d * i) % 2 ^ (k + 1) = M / 2 ^ (d * i) % 2 ^ k + bt M (d * i + k) * 2 ^ k := by
  unfold bt
  rw [Nat.pow_succ, Nat.mod_mul, Nat.pow_add, Nat.div_div_eq_div_mul, Nat.mul_comm (2 ^ k)]
theorem mod_bit (M k : Nat) : M % 2 ^ (k + 1) = M % 2 ^ k + bt M k * 2 ^ k := by
  unfold bt
  rw [Nat.pow_succ, Nat.mod_mul, Nat.mul_comm (2 ^ k)]
theorem bt_grp (M h i k : Nat) (hk : k < h) : bt (grp h M i) k = bt M (h * i + k) := by
  unfold bt grp
  rw [Nat.pow_add, ← Nat.div_div_eq_div_mul]
  generalize M / 2 ^ (h * i) = A
  obtain ⟨e, rfl⟩ : ∃ e, h = k + (e + 1) := ⟨h - k - 1, by omega⟩
  rw [Nat.pow_add, Nat.mod_mul_right_div_self, Nat.pow_succ, Nat.mul_comm, Nat.mod_mul_right_mod]

/-! ### Numbers squeezed and stretched -/
def sqz (d x : Nat) : Nat := (x * 2 ^ d + 1664) / 3329 % 2 ^ d
def str (d y : Nat) : Nat := (3329 * y + 2 ^ (d - 1)) / 2 ^ d
theorem sqz_lt (d x : Nat) : sqz d x < 2 ^ d := Nat.mod_lt _ (Nat.two_pow_pos _)
theorem sqz_doc (d x : Nat) : (2 * x * 2 ^ d + 3329) / 6658 % 2 ^ d = sqz d x := by
  unfold sqz
  rw [Nat.mul_assoc]
  generalize x * 2 ^ d = A
  rw [show (2 * A + 3329) / 6658 = (A + 1664) / 3329 by omega]
theorem str_doc (d y : Nat) (h : 1 ≤ d) : (6658 * y + 2 ^ d) / 2 ^ (d + 1) = str d y := by
  unfold str
  obtain ⟨k, rfl⟩ : ∃ k, d = k + 1 := ⟨d - 1, by omega⟩
  rw [show k + 1 - 1 = k by omega, show 6658 * y + 2 ^ (k + 1) = 2 * (3329 * y + 2 ^ k) by rw [Nat.pow_succ]; omega, Nat.pow_succ 2 (k + 1), Nat.mul_comm (2 ^ (k + 1)) 2, Nat.mul_div_mul_left _ _ (by omega)]
theorem str_lt (d y : Nat) (h1 : 1 ≤ d) (h2 : d ≤ 11) (hy : y < 2 ^ d) : str d y < 3329 := by
  unfold str
  obtain rfl | rfl | rfl | rfl | rfl | rfl | rfl | rfl | rfl | rfl | rfl : d = 1 ∨ d = 2 ∨ d = 3 ∨ d = 4 ∨ d = 5 ∨ d = 6 ∨ d = 7 ∨ d = 8 ∨ d = 9 ∨ d = 10 ∨ d = 11 := by omega
  all_goals (simp only [Nat.reducePow, Nat.reduceSub] at *; omega)
/-- as far as half a step, to the nearest one -/
def far (x y : Nat) : Nat := if x ≤ y then y - x else x - y
def far2 (x y : Nat) : Nat := if far x y ≤ 3329 - far x y then far x y else 3329 - far x y
theorem near_all : (List.range 11).all (fun d => (List.range 3329).all fun x => Nat.ble (far2 x (str (d + 1) (sqz (d + 1) x))) ((3329 + 2 ^ (d + 1)) / (2 * 2 ^ (d + 1)))) = true := by decide +kernel
theorem near (d x : Nat) (h1 : 1 ≤ d) (h2 : d ≤ 11) (hx : x < 3329) : far2 x (str d (sqz d x)) ≤ (3329 + 2 ^ d) / (2 * 2 ^ d) := by
  obtain ⟨e, rfl⟩ : ∃ e, d = e + 1 := ⟨d - 1, by omega⟩
  have h := List.all_eq_true.1 near_all e (List.mem_range.2 (by omega))
  exact Nat.le_of_ble_eq_true (List.all_eq_true.1 h x (List.mem_range.2 hx))
theorem sqz_str_all : (List.range 11).all (fun d => (List.range (2 ^ (d + 1))).all fun y => Nat.beq (sqz (d + 1) (str (d + 1) y)) y) = true := by decide +kernel
theorem sqz_str (d y : Nat) (h1 : 1 ≤ d) (h2 : d ≤ 11) (hy : y < 2 ^ d) : sqz d (str d y) = y := by
  obtain ⟨e, rfl⟩ : ∃ e, d = e + 1 := ⟨d - 1, by omega⟩
  have h := List.all_eq_true.1 sqz_str_all e (List.mem_range.2 (by omega))
  exact Nat.eq_of_beq_eq_true (List.all_eq_true.1 h y (List.mem_range.2 hy))

/-! ### Small numbers -/
def cbd (v : Nat) : Int := ((bt v 0 + bt v 1 : Nat) : Int) - ((bt v 2 + bt v 3 : Nat) : Int)
theorem cbd_lo (v : Nat) : -2 ≤ cbd v := by unfold cbd; have := bt_lt v 2; have := bt_lt v 3; omega
theorem cbd_hi (v : Nat) : cbd v ≤ 2 := by unfold cbd; have := bt_lt v 0; have := bt_lt v 1; omega
theorem cbd_alike (v : Nat) (h0 : bt v 0 = bt v 2) (h1 : bt v 1 = bt v 3) : cbd v = 0 := by unfold cbd; omega

/-! ### Drawn numbers -/
/-- of c 0, c 1, .. c (n - 1) those that are below q, in order -/
def acc (c : Nat → Nat) : Nat → List Nat
  | 0 => []
  | n + 1 => if c n < 3329 then acc c n ++ [c n] else acc c n
theorem acc_succ (c : Nat → Nat) (n : Nat) : acc c (n + 1) = if c n < 3329 then acc c n ++ [c n] else acc c n := rfl
theorem acc_lt (c : Nat → Nat) : ∀ n, ∀ x ∈ acc c n, x < 3329
  | 0 => by intro x hx; cases hx
  | n + 1 => by
    intro x hx
    rw [acc_succ] at hx
    split at hx
    · rename_i h
      rcases List.mem_append.1 hx with hx | hx
      · exact acc_lt c n x hx
      · simp at hx; omega
    · exact acc_lt c n x hx
theorem acc_grows (c : Nat → Nat) (n : Nat) : ∀ m, acc c n <+: acc c (n + m)
  | 0 => List.prefix_refl _
  | m + 1 => by
    rw [← Nat.add_assoc, acc_succ]
    split
    · exact (acc_grows c n m).trans (List.prefix_append _ _)
    · exact acc_grows c n m
theorem acc_len_le (c : Nat → Nat) : ∀ n, (acc c n).length ≤ n
  | 0 => Nat.le_refl _
  | n + 1 => by
    have := acc_len_le c n
    rw [acc_succ]
    split
    · rw [List.length_append]; simp; omega
    · omega
theorem acc_congr {c e : Nat → Nat} : ∀ n, (∀ i, i < n → c i = e i) → acc c n = acc e n
  | 0, _ => rfl
  | n + 1, h => by rw [acc_succ, acc_succ, acc_congr n fun i hi => h i (by omega), h n (by omega)]
theorem take_of_prefix {l m : List Nat} {k : Nat} (h : l <+: m) (hl : l.length = k) : m.take k = l := by
  obtain ⟨t, rfl⟩ := h
  rw [List.take_left' hl]
end Go.Proofs.YtdkhiooiakdecaaDoorR.Kp
