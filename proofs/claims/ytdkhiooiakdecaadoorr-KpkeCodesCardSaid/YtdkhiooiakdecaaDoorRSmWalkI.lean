/- Walks: NTT, Inverse. Written by tools/mk_smntt.py. -/
import Derived.Test.YtdkhiooiakdecaaDoorRSmWalkH
namespace Go.Proofs.YtdkhiooiakdecaaDoorR.Sm
open Go.RowKit
set_option linter.all false

theorem nf_bound : ∀ l, l < 8 → 1 ≤ nf l ∧ nf l ≤ 128 := by decide
theorem nf_go : ∀ l, l < 7 → 2 ≤ nf l ∧ nf (l + 1) = nf l / 2 := by decide
theorem pow_bound : ∀ l, l < 7 → 2 ^ l - 1 + 2 ^ l ≤ 127 ∧ 1 ≤ 2 ^ l ∧ 2 ^ l - 1 + 2 ^ l = 2 ^ (l + 1) - 1 := by decide
theorem zs_fwd (l : Nat) (hl : l < 7) (b : Nat) (hb : b < 2 ^ l) : zv (2 ^ l - 1 + b + 1) = zf l b := by
  unfold zf
  rw [Nat.mod_eq_of_lt hb, show 2 ^ l - 1 + b + 1 = 2 ^ l + b by have := (pow_bound l hl).2.1; omega]
theorem red3303 : red 3303 = 3303 := by decide
theorem zero_int : ∀ w, (zeroValue 3).run Tryd.prog w = .ok (.int .i64 0) w := by
  have h : (Tryd.prog.info? 3).map (fun i => i.zero) = some (some (.int .i64 0)) := by kernel_rfl
  obtain ⟨i, hi, e⟩ := Option.map_eq_some_iff.1 h
  intro w
  simp [zeroValue, typeInfo, hi, e]
theorem one1_of {w : World} {b k : Nat} {t : TypeId} (h : w.heap[b]? = some (.cells #[.int .i64 (k : Int)] t (0, 0))) : w.rowIs b t 1 (one1 k) := by
  refine ⟨_, h, rfl, fun i hi => ?_⟩
  obtain rfl : i = 0 := by omega
  rfl
theorem back_bound : ∀ l, l < 7 → 2 ^ (6 - l) + 2 ^ (6 - l) = 2 ^ (7 - l) ∧ 2 ^ (7 - l) ≤ 128 ∧ 2 ^ (l + 1) ≤ 128 ∧ 2 ^ (l + 1 + 1) = 2 ^ (l + 1) * 2 ∧ 1 ≤ 2 ^ (l + 1) ∧ 7 - (l + 1) = 6 - l := by decide
theorem zs_back (l : Nat) (hl : l < 7) (b : Nat) (hb : b < 2 ^ (6 - l)) : zv (2 ^ (6 - l) + 2 ^ (6 - l) - 1 - b) = zb l b := by
  unfold zb
  rw [Nat.mod_eq_of_lt hb, (back_bound l hl).1]
theorem red_unscale (x : F) : red (nv x * 3303) = 3303 * x := by rw [red_mul, red_nv, red3303]; grind
theorem unscale_bd (x : F) : -9223372036854775808 ≤ nv x * 3303 ∧ nv x * 3303 ≤ 9223372036854775807 := by have := nv_lo x; have := nv_hi x; omega
end Go.Proofs.YtdkhiooiakdecaaDoorR.Sm
