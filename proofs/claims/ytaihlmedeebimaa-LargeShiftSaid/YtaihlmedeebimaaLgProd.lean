/- Plain mathematics: the product of two polynomials modulo X^256 + 1, as the two loops make it, has the product of the transforms. -/
import Derived.Test.YtaihlmedeebimaaLgPlain
namespace Go.Proofs.Ytaihlmedeebimaa.Lg
set_option linter.all false

/-- number j, with v more -/
def bump (c : Nat → F) (j : Nat) (v : F) : Nat → F := fun i => if i = j then v else c i
/-- the place and what comes to stand there, of i and k -/
def put2 (a b c : Nat → F) (i k : Nat) : Nat → F := if i + k < 256 then bump c (i + k) (c (i + k) + a i * b k) else bump c (i + k - 256) (c (i + k - 256) - a i * b k)
def rowTo (a b c : Nat → F) (i : Nat) : Nat → Nat → F
  | 0 => c
  | k + 1 => put2 a b (rowTo a b c i k) i k
def allTo (a b : Nat → F) : Nat → Nat → F
  | 0 => fun _ => 0
  | i + 1 => rowTo a b (allTo a b i) i 256
def prod (a b : Nat → F) : Nat → F := allTo a b 256
/-- b times X, i times -/
def shI (b : Nat → F) : Nat → Nat → F
  | 0 => b
  | i + 1 => shX (shI b i)
theorem shX_at (f : Nat → F) (j : Nat) (hj : j < 256) : shX f j = if j = 0 then - f 255 else f (j - 1) := by
  unfold shX
  by_cases h : j = 0
  · subst h
    rw [if_pos rfl]
    have := xs_zero (fun _ => (-1 : F)) 256 f 0 (by omega)
    simp only [Nat.zero_mul, Nat.zero_add] at this
    rw [this]; grind
  · rw [if_neg h]
    have := xs_pos (fun _ => (-1 : F)) 256 f 0 j (by omega) hj
    simpa using this
theorem shI_at (b : Nat → F) : ∀ i, i ≤ 256 → ∀ j, j < 256 → shI b i j = if i ≤ j then b (j - i) else - b (j + 256 - i)
  | 0, _, j, hj => by rw [if_pos (by omega)]; rfl
  | i + 1, hi, j, hj => by
    show shX (shI b i) j = _
    rw [shX_at _ _ hj]
    by_cases h : j = 0
    · subst h
      rw [if_pos rfl, shI_at b i (by omega) 255 (by omega), if_neg (show ¬ i + 1 ≤ 0 by omega), if_pos (by omega), show 0 + 256 - (i + 1) = 255 - i by omega]
    · rw [if_neg h, shI_at b i (by omega) (j - 1) (by omega)]
      by_cases h2 : i + 1 ≤ j
      · rw [if_pos h2, if_pos (by omega), show j - 1 - i = j - (i + 1) by omega]
      · rw [if_neg h2, if_neg (by omega), show j - 1 + 256 - i = j + 256 - (i + 1) by omega]
theorem rowTo_at (a b c : Nat → F) (i : Nat) (hi : i < 256) : ∀ k, k ≤ 256 → ∀ j, j < 256 →
    rowTo a b c i k j = if i ≤ j ∧ j - i < k then c j + a i * b (j - i) else if j < i ∧ j + 256 - i < k then c j - a i * b (j + 256 - i) else c j
  | 0, _, j, _ => by rw [if_neg (by omega), if_neg (by omega)]; rfl
  | k + 1, hk, j, hj => by
    have ih := rowTo_at a b c i hi k (by omega)
    show put2 a b (rowTo a b c i k) i k j = _
    unfold put2 bump
    by_cases h : i + k < 256
    · rw [if_pos h]
      by_cases e : j = i + k
      · rw [if_pos e, e, ih (i + k) h, if_neg (by omega), if_neg (by omega), if_pos (by omega), show i + k - i = k by omega]
      · rw [if_neg e, ih j hj]
        by_cases h1 : i ≤ j ∧ j - i < k
        · rw [if_pos h1, if_pos (by omega)]
        · rw [if_neg h1, if_neg (show ¬ (i ≤ j ∧ j - i < k + 1) by omega)]
          by_cases h2 : j < i ∧ j + 256 - i < k
          · rw [if_pos h2, if_pos (by omega)]
          · rw [if_neg h2, if_neg (by omega)]
    · rw [if_neg h]
      by_cases e : j = i + k - 256
      · rw [if_pos e, e, ih (i + k - 256) (by omega), if_neg (by omega), if_neg (by omega), if_neg (by omega), if_pos (by omega), show i + k - 256 + 256 - i = k by omega]
      · rw [if_neg e, ih j hj]
        by_cases h1 : i ≤ j ∧ j - i < k
        · rw [if_pos h1, if_pos (by omega)]
        · rw [if_neg h1, if_neg (show ¬ (i ≤ j ∧ j - i < k + 1) by omega)]
          by_cases h2 : j < i ∧ j + 256 - i < k
          · rw [if_pos h2, if_pos (by omega)]
          · rw [if_neg h2, if_neg (by omega)]
theorem row_whole (a b c : Nat → F) (i : Nat) (hi : i < 256) : Eqv (rowTo a b c i 256) (pl c (sc (a i) (shI b i))) := fun j hj => by
  rw [rowTo_at a b c i hi 256 (Nat.le_refl _) j hj]
  unfold pl sc
  rw [shI_at b i (by omega) j hj]
  by_cases h : i ≤ j
  · rw [if_pos (by omega), if_pos h]
  · rw [if_neg (by omega), if_pos (by omega), if_neg h]; grind
theorem ntt_shI (b : Nat → F) : ∀ i, ntt (shI b (i + 1)) = mx (ntt (shI b i)) := fun i => ntt_shX _
def upto (a : Nat → F) (i : Nat) : Nat → F := fun j => if j < i then a j else 0
theorem upto_succ (a : Nat → F) (i : Nat) (hi : i < 256) : Eqv (upto a (i + 1)) (pl (upto a i) (sc (a i) (shI (dl 256) i))) := fun j hj => by
  unfold upto pl sc
  rw [shI_at _ i (by omega) j hj]
  unfold dl
  show _ = (if j < i then a j else 0) + _
  by_cases h : j < i
  · rw [if_pos (by omega), if_pos h, if_neg (by omega), if_neg (by omega)]; grind
  · by_cases e : j = i
    · subst e
      rw [if_pos (by omega), if_neg h, if_pos (by omega), if_pos (by omega)]; grind
    · rw [if_neg (by omega), if_neg h, if_pos (by omega), if_neg (by omega)]; grind
theorem tim_shI (b : Nat → F) : ∀ i, tim (ntt (shI (dl 256) i)) (ntt b) = ntt (shI b i)
  | 0 => by show tim (ntt (dl 256)) (ntt b) = ntt b; rw [ntt_dl, tim_comm, tim_uno]
  | i + 1 => by rw [ntt_shI, ntt_shI, tim_comm, tim_mx, tim_comm, tim_shI b i]
theorem tim_zero (g : Nat → F) : tim (fun _ => 0) g = fun _ => 0 := by funext j; unfold tim; grind
theorem sc_zero (f : Nat → F) : sc 0 f = fun _ => 0 := by funext i; simp only [sc]; grind
theorem ntt_zero : ntt (fun _ => 0) = fun _ => 0 := by rw [← sc_zero (fun _ => 0), ntt_sc, sc_zero, sc_zero]
theorem ntt_allTo (a b : Nat → F) : ∀ i, i ≤ 256 → Eqv (ntt (allTo a b i)) (tim (ntt (upto a i)) (ntt b))
  | 0, _ => by
    have e : upto a 0 = fun _ => 0 := by funext j; unfold upto; rw [if_neg (by omega)]
    show Eqv (ntt (fun _ => 0)) _
    rw [e, ntt_zero, tim_zero]; exact Eqv.refl _
  | i + 1, hi => by
    have h1 : Eqv (ntt (allTo a b (i + 1))) (pl (ntt (allTo a b i)) (sc (a i) (ntt (shI b i)))) := by
      have := ntt_eqv (row_whole a b (allTo a b i) i (by omega))
      rwa [ntt_pl, ntt_sc] at this
    have h2 : Eqv (tim (ntt (upto a (i + 1))) (ntt b)) (pl (tim (ntt (upto a i)) (ntt b)) (sc (a i) (ntt (shI b i)))) := by
      have := tim_eqv (ntt_eqv (upto_succ a i (by omega))) (Eqv.refl (ntt b))
      rwa [ntt_pl, ntt_sc, tim_comm (pl _ _) (ntt b), tim_pl, tim_sc, tim_comm _ (ntt (shI (dl 256) i)), tim_shI, tim_comm (ntt b)] at this
    exact (h1.trans (pl_eqv (ntt_allTo a b i (by omega)) (Eqv.refl _))).trans h2.symm
theorem ntt_prod (a b : Nat → F) : Eqv (ntt (prod a b)) (tim (ntt a) (ntt b)) :=
  (ntt_allTo a b 256 (Nat.le_refl _)).trans (tim_eqv (ntt_eqv fun i hi => by unfold upto; rw [if_pos hi]) (Eqv.refl _))
theorem inv_tim (a b : Nat → F) : Eqv (inv (tim (ntt a) (ntt b))) (prod a b) := by
  have := inv_eqv (ntt_prod a b)
  rw [inv_ntt] at this
  exact this.symm
end Go.Proofs.Ytaihlmedeebimaa.Lg
