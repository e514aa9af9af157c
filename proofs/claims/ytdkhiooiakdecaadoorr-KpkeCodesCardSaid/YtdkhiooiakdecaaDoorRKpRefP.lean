/- Plain: a great number's bytes, bit by bit. -/
import Derived.Test.YtdkhiooiakdecaaDoorRKpPlain
namespace Go.Proofs.YtdkhiooiakdecaaDoorR.Kp
set_option linter.all false

theorem part_lt (M a : Nat) : M % 2 ^ a / 2 ^ (8 * (a / 8)) < 2 ^ (a % 8) := by
  have h := Nat.div_add_mod a 8
  rw [Nat.div_lt_iff_lt_mul (Nat.two_pow_pos _), ← Nat.pow_add, Nat.add_comm, h]
  exact Nat.mod_lt _ (Nat.two_pow_pos _)
theorem pow_small (r : Nat) (h : r < 8) : 2 ^ r * 2 ≤ 256 := by
  have := Nat.pow_le_pow_right (show 0 < 2 by omega) (show r + 1 ≤ 8 by omega)
  rw [Nat.pow_succ] at this; exact this
theorem part_byte (M a : Nat) : grp 8 (M % 2 ^ a) (a / 8) = M % 2 ^ a / 2 ^ (8 * (a / 8)) := by
  unfold grp
  have h1 := part_lt M a
  have h2 := pow_small (a % 8) (Nat.mod_lt _ (by omega))
  rw [Nat.mod_eq_of_lt (by show _ < 256; omega)]
theorem part_at (M a : Nat) : grp 8 (M % 2 ^ (a + 1)) (a / 8) = grp 8 (M % 2 ^ a) (a / 8) + bt M a * 2 ^ (a % 8) := by
  rw [part_byte]
  have h := Nat.div_add_mod a 8
  have h1 := part_lt M a
  have h2 := pow_small (a % 8) (Nat.mod_lt _ (by omega))
  have hb := bt_lt M a
  unfold grp
  rw [mod_bit M a]
  have e : bt M a * 2 ^ a = bt M a * 2 ^ (a % 8) * 2 ^ (8 * (a / 8)) := by
    rw [Nat.mul_assoc, ← Nat.pow_add, Nat.add_comm (a % 8), h]
  rw [e, Nat.add_mul_div_right _ _ (Nat.two_pow_pos _)]
  generalize M % 2 ^ a / 2 ^ (8 * (a / 8)) = u at *
  have hbm : bt M a * 2 ^ (a % 8) ≤ 1 * 2 ^ (a % 8) := Nat.mul_le_mul_right _ (by omega)
  rw [Nat.one_mul] at hbm
  rw [Nat.mod_eq_of_lt (by show _ < 256; omega)]
theorem part_other (M a t : Nat) (ht : t ≠ a / 8) : grp 8 (M % 2 ^ (a + 1)) t = grp 8 (M % 2 ^ a) t := by
  rcases Nat.lt_or_ge t (a / 8) with h | h
  · unfold grp
    refine low_grp (s := a) ?_ (by omega)
    rw [Nat.mod_mod_of_dvd _ (Nat.pow_dvd_pow 2 (show a ≤ a + 1 by omega)), Nat.mod_mod]
  · have hz : ∀ b, b ≤ a + 1 → grp 8 (M % 2 ^ b) t = 0 := fun b hb => by
      unfold grp
      have h1 : M % 2 ^ b < 2 ^ b := Nat.mod_lt _ (Nat.two_pow_pos _)
      have h2 : 2 ^ b ≤ 2 ^ (8 * t) := Nat.pow_le_pow_right (by omega) (by omega)
      rw [Nat.div_eq_of_lt (by omega), Nat.zero_mod]
    rw [hz _ (by omega), hz _ (by omega)]
theorem part_none (M t : Nat) : grp 8 (M % 2 ^ 0) t = 0 := by unfold grp; rw [Nat.pow_zero, Nat.mod_one, Nat.zero_div, Nat.zero_mod]
/-- one more bit, in the byte that has it -/
theorem part_succ (M a t : Nat) : grp 8 (M % 2 ^ (a + 1)) t = if t = a / 8 then grp 8 (M % 2 ^ a) t + bt M a * 2 ^ (a % 8) else grp 8 (M % 2 ^ a) t := by
  by_cases h : t = a / 8
  · rw [if_pos h, h, part_at]
  · rw [if_neg h, part_other M a t h]
end Go.Proofs.YtdkhiooiakdecaaDoorR.Kp
