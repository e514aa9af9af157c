/- Plain mathematics of the laws: times X, times a number. -/
import Derived.Test.YtaihlmedeebimaaLgProd
namespace Go.Proofs.Ytaihlmedeebimaa.Lg
set_option linter.all false

def unitAt (k : Nat) (v : Int) : Nat → Int := fun i => if i = k then v else 0
theorem redU (k : Nat) (v : Int) (i : Nat) : red (unitAt k v i) = if i = k then red v else 0 := by
  unfold unitAt
  split
  · rfl
  · decide
def dlx : Nat → F := fun i => red (unitAt 1 1 i)
theorem dlx_is : Eqv dlx (shX (dl 256)) := fun i hi => by
  rw [shX_at _ _ hi]
  unfold dlx
  rw [redU]
  by_cases h : i = 0
  · subst h; rw [if_neg (by omega), if_pos rfl]; decide
  · rw [if_neg h]
    unfold dl
    by_cases e : i = 1
    · subst e; rw [if_pos rfl, if_pos (by omega)]; decide
    · rw [if_neg e, if_neg (by omega)]
theorem shift_is (A : Nat → F) : Eqv (inv (tim (ntt A) (ntt dlx))) (shX A) := by
  have h1 : Eqv (ntt dlx) (mx uno) := by have := ntt_eqv dlx_is; rwa [ntt_shX, ntt_dl] at this
  have h2 := inv_eqv (tim_eqv (Eqv.refl (ntt A)) h1)
  rwa [tim_mx, tim_uno, ← ntt_shX, inv_ntt] at h2
def dln (n : Int) : Nat → F := fun i => red (unitAt 0 n i)
theorem dln_is (n : Int) : Eqv (dln n) (sc (red n) (dl 256)) := fun i hi => by
  unfold dln sc dl
  rw [redU]
  by_cases h : i = 0
  · subst h; rw [if_pos rfl, if_pos (by omega)]; grind
  · rw [if_neg h, if_neg (by omega)]; grind
theorem scalar_is (A : Nat → F) (n : Int) : Eqv (inv (tim (ntt A) (ntt (dln n)))) (sc (red n) A) := by
  have h1 : Eqv (ntt (dln n)) (sc (red n) uno) := by have := ntt_eqv (dln_is n); rwa [ntt_sc, ntt_dl] at this
  have h2 := inv_eqv (tim_eqv (Eqv.refl (ntt A)) h1)
  rwa [tim_sc, tim_uno, ← ntt_sc, inv_ntt] at h2
theorem red_q : red 8380417 = 0 := by decide
theorem nv_neg (x : F) : nv (-x) = (8380417 - nv x) % 8380417 := by
  have h : -x = red (8380417 - nv x) := by rw [red_sub, red_nv, red_q]; grind
  rw [h, nv_red]
theorem red_mul_nv' (x y : F) : red (nv y * nv x) = y * x := by rw [red_mul, red_nv, red_nv]
theorem nv_mul (x y : F) : nv (x * y) = nv y * nv x % 8380417 := by
  have h : x * y = red (nv y * nv x) := by rw [red_mul_nv']; grind
  rw [h, nv_red]
theorem nv_zero : nv 0 = 0 := by decide
theorem less_is (A : Nat → F) : sc (red (-1)) A = mi (fun _ => red 0) A := by
  funext i
  have h1 : red (-1) = -1 := by decide
  have h2 : red 0 = 0 := by decide
  unfold sc mi
  rw [h1, h2]; grind
end Go.Proofs.Ytaihlmedeebimaa.Lg
