/- RatchetLeaves, plain: the rest of a way, and the low bits of a number. -/
import Derived.Test.YtkplkfokpniflaaDoorRaHead
namespace Go.Proofs.YtkplkfokpniflaaDoor.Ra
set_option linter.all false
open Go.RowKit
open Wr (Txt Any New bcells gt)

theorem and_mask (n : Int) (d : Nat) (h : d ≤ 62) : bits .and .i64 n (((2 ^ d : Nat) : Int) - 1) = n % ((2 ^ d : Nat) : Int) := by
  have hp : 0 < 2 ^ d := Nat.two_pow_pos d
  have hl : 2 ^ d ≤ 2 ^ 62 := Nat.pow_le_pow_right (by omega) h
  have h1 : (BitVec.ofInt 64 (((2 ^ d : Nat) : Int) - 1)).toNat = 2 ^ d - 1 := by
    rw [BitVec.toNat_ofInt]
    generalize 2 ^ d = k at *
    omega
  have hd : 2 ^ d ∣ 2 ^ 64 := Nat.pow_dvd_pow 2 (by omega)
  have key : (BitVec.ofInt 64 n &&& BitVec.ofInt 64 (((2 ^ d : Nat) : Int) - 1)).toNat = (n % ((2 ^ 64 : Nat) : Int)).toNat % 2 ^ d := by
    rw [BitVec.toNat_and, BitVec.toNat_ofInt, h1, Nat.and_two_pow_sub_one_eq_mod]
  show IntKind.i64.wrap ((BitVec.ofInt 64 n &&& BitVec.ofInt 64 (((2 ^ d : Nat) : Int) - 1)).toNat : Nat) = _
  rw [key, IntKind.wrap_i64]
  have e1 : (((n % ((2 ^ 64 : Nat) : Int)).toNat % 2 ^ d : Nat) : Int) = n % ((2 ^ d : Nat) : Int) := by
    have h0 : 0 ≤ n % ((2 ^ 64 : Nat) : Int) := Int.emod_nonneg _ (by omega)
    rw [Int.natCast_emod, Int.toNat_of_nonneg h0, Int.emod_emod_of_dvd _ (Int.natCast_dvd_natCast.2 hd)]
  rw [e1]
  have h2 : 0 ≤ n % ((2 ^ d : Nat) : Int) := Int.emod_nonneg _ (by omega)
  have h3 : n % ((2 ^ d : Nat) : Int) < ((2 ^ d : Nat) : Int) := Int.emod_lt_of_pos _ (by omega)
  omega
theorem bitAt_is (x k : Nat) : bitAt x k = x.testBit k := by unfold bitAt; rw [Nat.testBit_eq_decide_div_mod_eq]
theorem down_congr {l l' : Nat} : ∀ {D : Nat} {s : List Nat}, (∀ k, k < D → bitAt l k = bitAt l' k) → down l D s = down l' D s
  | 0, _, _ => rfl
  | D + 1, s, h => by
    show down l D (oneD s (bitAt l D)) = down l' D (oneD s (bitAt l' D))
    rw [h D (by omega)]
    exact down_congr fun k hk => h k (by omega)
theorem secret_zero {b : List Nat} (hb : b.length = 32) : secretR b 0 0 = b := by
  unfold secretR; rw [if_pos ⟨hb, by decide, by decide, by decide, by decide⟩]; rfl
theorem secret_half {b : List Nat} (hb : b.length = 32) {D L : Nat} (hL : L < 2 ^ (D + 1)) : secretR b 1 ((L / 2 ^ D : Nat) : Int) = oneD b (bitAt L D) := by
  have h2 : L / 2 ^ D < 2 := by rw [Nat.div_lt_iff_lt_mul (Nat.two_pow_pos D), ← Nat.pow_succ']; exact hL
  unfold secretR
  obtain ⟨x, hx⟩ : ∃ x, L / 2 ^ D = x := ⟨_, rfl⟩
  rw [hx] at h2
  rw [hx, if_pos ⟨hb, by decide, by decide, by omega, by show (x : Int) < 2; omega⟩, Int.toNat_natCast, ← hx]
  show oneD b (bitAt (L / 2 ^ D) 0) = _
  congr 1
  unfold bitAt
  rw [Nat.pow_zero, Nat.div_one]
theorem secret_rest {b : List Nat} (hb : b.length = 32) {D L : Nat} (hD : D < 16) (hL : L < 2 ^ (D + 1)) : secretR (oneD b (bitAt L D)) D ((L % 2 ^ D : Nat) : Int) = secretR b ((D + 1 : Nat) : Int) L := by
  have hm : L % 2 ^ D < 2 ^ D := Nat.mod_lt _ (Nat.two_pow_pos D)
  unfold secretR
  rw [if_pos ⟨oneD_len _ _, by omega, by omega, by omega, by rw [Int.toNat_natCast]; exact_mod_cast hm⟩, if_pos ⟨hb, by omega, by omega, by omega, by rw [Int.toNat_natCast]; exact_mod_cast hL⟩]
  simp only [Int.toNat_natCast]
  show down (L % 2 ^ D) D (oneD b (bitAt L D)) = down L D (oneD b (bitAt L D))
  refine down_congr fun k hk => ?_
  rw [bitAt_is, bitAt_is, Nat.testBit_mod_two_pow, decide_eq_true hk, Bool.true_and]
end Go.Proofs.YtkplkfokpniflaaDoor.Ra
