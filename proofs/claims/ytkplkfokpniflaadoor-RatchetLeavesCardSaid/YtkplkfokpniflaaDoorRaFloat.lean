/- The word of a number that is below nought, or above sixteen, is none of a level. -/
import Derived.Test.YtkplkfokpniflaaDoorSpM1
namespace Go.Proofs.YtkplkfokpniflaaDoor.Ra
set_option linter.all false
set_option maxRecDepth 100000
open Go.RowKit
open Fl Ieee

theorem cut_ge (neg : Bool) (n drop : Nat) (h : drop ≤ n.log2 + 2) : n / 2 ^ drop ≤ Toward.even.cut neg n drop := by
  unfold Toward.cut
  rw [Nat.min_eq_left h]
  simp only [shl, Nat.one_mul]
  exact Nat.le_add_right _ _
/-- a number's rung is no lower than its highest digit says -/
theorem near_lo (neg : Bool) (n : Nat) (hz : n ≠ 0) : ∃ m, double.nearest neg n 0 = double.word neg m ∧ m ≤ 2047 * 2 ^ 52 ∧ (min (n.log2 + 1023) 2047) * 2 ^ 52 ≤ m := by
  unfold Format.nearest
  rw [if_neg hz]
  have elast : max ((0 : Int) + (n.log2 : Int) - (double.fractionBits : Int)) double.leastPlace = (n.log2 : Int) - 52 := by
    rw [lp]; simp only [double]; omega
  dsimp only
  rw [elast, lp, bin, inf, show ((n.log2 : Int) - 52 - -1074).toNat = n.log2 + 1022 by omega]
  obtain ⟨k, hk⟩ : ∃ k, Toward.even.cut neg (n <<< ((0 : Int) - ((n.log2 : Int) - 52)).toNat) ((n.log2 : Int) - 52 - 0).toNat = k := ⟨_, rfl⟩
  have h1 := Nat.log2_self_le hz
  have hk52 : 2 ^ 52 ≤ k := by
    rw [← hk]
    by_cases hl : n.log2 ≤ 52
    · rw [show ((n.log2 : Int) - 52 - 0).toNat = 0 by omega, cut_none, shl, show ((0 : Int) - ((n.log2 : Int) - 52)).toNat = 52 - n.log2 by omega]
      have e : 2 ^ 52 = 2 ^ n.log2 * 2 ^ (52 - n.log2) := by rw [← Nat.pow_add]; congr 1; omega
      rw [e]; exact Nat.mul_le_mul_right _ h1
    · rw [show ((0 : Int) - ((n.log2 : Int) - 52)).toNat = 0 by omega, Nat.shiftLeft_zero, show ((n.log2 : Int) - 52 - 0).toNat = n.log2 - 52 by omega]
      refine Nat.le_trans ?_ (cut_ge neg n (n.log2 - 52) (by omega))
      rw [Nat.le_div_iff_mul_le (Nat.two_pow_pos _), ← Nat.pow_add, show 52 + (n.log2 - 52) = n.log2 by omega]
      exact h1
  rw [hk]
  refine ⟨_, rfl, Nat.min_le_right _ _, ?_⟩
  generalize n.log2 = L at *
  omega
theorem far_deep (d : Int) (h : d < 0 ∨ 16 < d) : ∀ l, l ≤ 16 → ¬ Nz (floatOfInt .f64 d) l := by
  intro l hl hN
  have hl63 := fl_small l (by omega)
  rcases h with h | h
  · obtain ⟨n, hn⟩ : ∃ n : Nat, d = -(n : Int) := ⟨d.natAbs, by omega⟩
    obtain ⟨m, h1, h2, h3⟩ := near_lo true n (by omega)
    have e : floatOfInt .f64 d = double.word true m := by
      rw [← h1, hn]
      have h9 : (-(n : Int) < 0) := by omega
      have h8 : (-(n : Int)).natAbs = n := by omega
      have h7 : 0 < n := by omega
      simp [floatOfInt, FloatKind.nearest, FloatKind.encode, FloatKind.format, Format.write, h9, h8, h7]
    have e2 : double.word true m = 2 ^ 63 + m := by unfold Format.word; rw [sw]; simp
    rw [e, e2] at hN
    rcases hN with hN | ⟨hN, -⟩ <;> omega
  · obtain ⟨n, rfl⟩ := Int.eq_ofNat_of_zero_le (show 0 ≤ d by omega)
    rw [show floatOfInt .f64 (n : Int) = fl n from nearest_int n] at hN
    by_cases h52 : n < 2 ^ 52
    · have hs := fl_small n h52
      rcases hN with hN | ⟨hN, -⟩
      · have a := Fl.toInt n (by omega) .zero
        have b := Fl.toInt l (by omega) .zero
        rw [hN, b] at a
        injection a with a
        omega
      · omega
    · obtain ⟨m, h1, h2, h3⟩ := near_lo false n (by omega)
      have e : fl n = m := by unfold fl; rw [h1]; unfold Format.word; simp
      rw [e] at hN
      have hlog : 52 ≤ n.log2 := by
        rw [Nat.le_log2 (by omega)]; omega
      have h16 : fl l ≤ 1028 * 2 ^ 52 := by
        rw [fl_word l (by omega)]
        unfold word rung
        split
        · omega
        · rename_i hz
          have h4 : l.log2 ≤ 4 := by
            have := (Nat.log2_lt hz).2 (show l < 2 ^ 5 by omega)
            omega
          have h9 : l * 2 ^ (52 - l.log2) < 2 ^ 53 := sig_hi l (by omega)
          have h10 : (l.log2 + 1022 - 0) * 2 ^ 52 ≤ 1026 * 2 ^ 52 := Nat.mul_le_mul_right _ (by omega)
          exact Nat.le_trans (Nat.add_le_add h10 (Nat.le_of_lt h9)) (by decide)
      have : 1075 * 2 ^ 52 ≤ m := by
        refine Nat.le_trans (Nat.mul_le_mul_right _ ?_) h3
        omega
      rcases hN with hN | ⟨hN, -⟩ <;> omega
theorem floatOfInt_lt (d : Int) : floatOfInt .f64 d < 2 ^ 64 := by
  unfold floatOfInt FloatKind.nearest FloatKind.encode
  exact double.nearest_lt _ _ _
end Go.Proofs.YtkplkfokpniflaaDoor.Ra
