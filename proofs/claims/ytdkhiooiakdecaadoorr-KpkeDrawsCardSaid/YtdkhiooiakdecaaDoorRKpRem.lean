/- Plain: numbers brought within bounds. Written by tools/mk_kpback.py. -/
import Derived.Test.YtdkhiooiakdecaaDoorRKpWalkI
namespace Go.Proofs.YtdkhiooiakdecaaDoorR.Kp
set_option linter.all false
open Go.RowKit Iter Sm

/-- numbers brought within bounds -/
def rem2 (M : Nat) (p : Nat → Int) : Nat → Int := fun i => p i % (M : Int)
theorem rem2_fits {M : Nat} (p : Nat → Int) (h1 : 1 ≤ M) (h2 : M ≤ 4096) : Fits (rem2 M p) := fun i _ => by
  have := Int.emod_nonneg (p i) (show (M : Int) ≠ 0 by omega)
  have := Int.emod_lt_of_pos (p i) (show (0 : Int) < (M : Int) by omega)
  show _ ≤ p i % (M : Int) ∧ p i % (M : Int) ≤ _
  omega
def modOf (k : Nat) : Nat := if k = 12 then 3329 else 2 ^ k
theorem brv_rem2 (k : Nat) (p : Nat → Int) (h : k ≤ 12) (i : Nat) : ((brv k (rem2 (modOf k) p i) : Nat) : Int) = rem2 (modOf k) p i := by
  unfold brv modOf rem2
  by_cases e : k = 12
  · rw [if_pos e, if_pos e]; unfold rq; omega
  · rw [if_neg e, if_neg e]
    have hp : 0 < 2 ^ k := Nat.two_pow_pos k
    have h1 := Int.emod_nonneg (p i) (show ((2 ^ k : Nat) : Int) ≠ 0 by omega)
    have h2 := Int.emod_lt_of_pos (p i) (show (0 : Int) < ((2 ^ k : Nat) : Int) by omega)
    unfold rd2
    rw [Int.emod_emod_of_dvd _ (Int.dvd_refl _)]
    omega
theorem tmod_neg_fix (a : Int) {M : Nat} (h1 : 1 ≤ M) : (a.tmod (M : Int) < 0 → a.tmod (M : Int) + (M : Int) = a % (M : Int)) ∧ (¬ a.tmod (M : Int) < 0 → a.tmod (M : Int) = a % (M : Int)) ∧ -(M : Int) < a.tmod (M : Int) ∧ a.tmod (M : Int) < (M : Int) := by
  have hM : (M : Int) ≠ 0 := by omega
  have e1 := Int.emod_nonneg a hM
  have e2 := Int.emod_lt_of_pos a (show (0 : Int) < (M : Int) by omega)
  rcases Int.le_total 0 a with h | h
  · rw [Int.tmod_eq_emod_of_nonneg h]; omega
  · have t : a.tmod (M : Int) = -((-a) % (M : Int)) := by
      rw [show a.tmod (M : Int) = -((-a).tmod (M : Int)) by rw [Int.neg_tmod]; omega, Int.tmod_eq_emod_of_nonneg (by omega)]
    have f1 := Int.emod_nonneg (-a) hM
    have f2 := Int.emod_lt_of_pos (-a) (show (0 : Int) < (M : Int) by omega)
    have d1 := Int.emod_add_mul_ediv a (M : Int)
    have d2 := Int.emod_add_mul_ediv (-a) (M : Int)
    have key : ((M : Int) ∣ (a % (M : Int) + (-a) % (M : Int))) := by
      refine ⟨-(a / (M : Int)) - (-a) / (M : Int), ?_⟩
      rw [Int.mul_sub, Int.mul_neg]; omega
    obtain ⟨q, hq⟩ := key
    have hq0 : q = 0 ∨ q = 1 := by
      have a1 : 0 ≤ (M : Int) * q := by omega
      have a2 : (M : Int) * q < (M : Int) * 2 := by omega
      have b1 : q < 2 := by
        by_cases h : q < 2
        · exact h
        · have := Int.mul_le_mul_of_nonneg_left (show (2 : Int) ≤ q by omega) (show (0 : Int) ≤ (M : Int) by omega); omega
      have b2 : -1 < q := by
        by_cases h : -1 < q
        · exact h
        · have := Int.mul_le_mul_of_nonneg_left (show q ≤ (-1 : Int) by omega) (show (0 : Int) ≤ (M : Int) by omega); omega
      omega
    rw [t]
    rcases hq0 with rfl | rfl
    · rw [Int.mul_zero] at hq; omega
    · rw [Int.mul_one] at hq; omega

theorem decV_fits (d : Int) (bs : List Nat) (h : d ≤ 12) : Fits (decV d bs) := fun i _ => by
  unfold decV
  have h1 := brv_lt d.toNat (grp d.toNat (num 8 (Kec.gt bs) bs.length) i)
  have h2 := pow_le (show d.toNat ≤ 12 by omega)
  split <;> omega
theorem nat_wf8 {x : Int} (h : (Lit.int .u8 x).wf = true) : ∃ k : Nat, x = k ∧ k < 256 := by
  simp [Lit.wf, IntKind.min, IntKind.max, IntKind.bits, IntKind.signed] at h
  exact ⟨x.toNat, by omega, by omega⟩
def remTo (M : Nat) (p : Nat → Int) (j : Nat) : Nat → Int := fun i => if i < j then rem2 M p i else p i
theorem remTo_zero (M : Nat) (p : Nat → Int) : remTo M p 0 = p := by funext i; unfold remTo; rw [if_neg (by omega)]
theorem remTo_at (M : Nat) (p : Nat → Int) (j : Nat) : remTo M p j j = p j := by unfold remTo; rw [if_neg (by omega)]
theorem remTo_all {cs : Array Value} {M : Nat} {p : Nat → Int} (h : IsP cs (remTo M p 256)) : IsP cs (rem2 M p) := h.congr fun i hi => by unfold remTo; rw [if_pos hi]
theorem row_remTo {w w' : World} {b j M : Nat} {t : TypeId} {p : Nat → Int} {f : Nat → Value} (h : w.rowIs b t 256 (ints (remTo M p j))) (h' : w'.rowIs b t 256 f) (e1 : ∀ i, i < 256 → i ≠ j → f i = ints (remTo M p j) i) (e2 : f j = .int .i64 (rem2 M p j)) : w'.rowIs b t 256 (ints (remTo M p (j + 1))) :=
  h'.congr fun i hi => by
    by_cases e : i = j
    · subst e; rw [e2]; unfold ints remTo; rw [if_pos (by omega)]
    · rw [e1 i hi e]; unfold ints remTo
      by_cases h : i < j
      · rw [if_pos h, if_pos (by omega)]
      · rw [if_neg h, if_neg (by omega)]

end Go.Proofs.YtdkhiooiakdecaaDoorR.Kp
