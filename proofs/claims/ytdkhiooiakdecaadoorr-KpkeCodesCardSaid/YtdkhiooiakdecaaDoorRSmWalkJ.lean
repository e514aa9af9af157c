/- Walks: Times. Written by tools/mk_smtimes.py. -/
import Derived.Test.YtdkhiooiakdecaaDoorRSmWalkI
namespace Go.Proofs.YtdkhiooiakdecaaDoorR.Sm
open Go.RowKit
set_option linter.all false

theorem partx_put {w : World} {b k : Nat} {t : TypeId} {x : Nat → F} {v : F} (hv : x k = v) (h : w.rowIs b t 256 (ints (partx x k))) : (w.setCell ⟨b, k, none⟩ (.int .i64 (nv v))).rowIs b t 256 (ints (partx x (k + 1))) := by
  rw [← hv]; exact partx_succ h
theorem number_same (n : Int) (x : F) (w : World) (h : red n = x) (h1 : -9223372036854775808 ≤ n) (h2 : n ≤ 9223372036854775807) :
    Calls Tryd.prog 59 #[.int .i64 n] w fun e w' => e = .returned (.int .i64 (nv x)) ∧ w' = w :=
  (number_is n x w h h1 h2).mono fun _ _ ⟨h, h'⟩ => ⟨h, h'.symm⟩
theorem red_gam (k : Nat) : red (nv (zv k * zv k) * 17) = gam k := by rw [red_mul, red_nv]; rfl
theorem red_even (a b c d g : F) : red (nv a * nv b + nv g * nv (c * d)) = a * b + g * (c * d) := by rw [red_add, red_mul_nv, red_mul_nv]
theorem red_odd (a b c d : F) : red (nv a * nv b + nv c * nv d) = a * b + c * d := by rw [red_add, red_mul_nv, red_mul_nv]

end Go.Proofs.YtdkhiooiakdecaaDoorR.Sm
