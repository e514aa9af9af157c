/- What the rows' proofs share: an array of 256 numbers that came in. -/
import Derived.Test.YtaihlmedeebimaaRows
import Derived.Test.YtaihlmedeebimaaLgMem
import Derived.Test.YtaihlmedeebimaaLgWalkD
import Derived.ProofKit
import Derived.OpenShut
import Derived.Carry
namespace Go.Proofs.Ytaihlmedeebimaa.Lg
open Go.ChangeShapes Go.WideShapes Go.ChangeAt Go.RowKit
set_option linter.all false

theorem own : ownKnob Try.prog.godebug = none := by kernel_rfl
theorem laidOut : laidOutB Try.prog = true := by kernel_rfl
theorem poly_types : Try.prog.cellTypes Try.prog.depth 23 = some (List.replicate 256 3) := by kernel_rfl
theorem poly_cells : Try.prog.cellsOf 23 = 256 := by kernel_rfl
theorem cell_int {W : World} {r : Reach} {base : Nat} {v : Value} (h : Cell.okWide Try.prog W r base 3 v) : ∃ n : Int, v = .int .i64 n ∧ -9223372036854775808 ≤ n ∧ n ≤ 9223372036854775807 := by
  simp only [Cell.okWide, Try.underlying3, Cell.ok] at h
  cases v <;> simp_all
  obtain ⟨rfl, h⟩ := h
  simp [IntKind.has, IntKind.min, IntKind.max, IntKind.bits, IntKind.signed] at h
  exact h
theorem poly_of {W : World} {r : Reach} {base : Nat} {v : Value} (h : Value.okWide Try.prog W r base 23 v) : ∃ cs p, v = .agg cs ∧ IsP cs p ∧ Fits p := by
  simp only [Value.okWide, Try.underlying23] at h
  obtain ⟨cs, rfl, hsz, ts, hts, _, hc⟩ := h
  rw [poly_cells] at hsz
  rw [poly_types] at hts
  obtain rfl := Option.some.inj hts
  have hat : ∀ i, i < 256 → ∃ n : Int, cs[i]? = some (.int .i64 n) ∧ -9223372036854775808 ≤ n ∧ n ≤ 9223372036854775807 := fun i hi => by
    have hi' : i < cs.size := by omega
    obtain ⟨u, hu, hk⟩ := hc i cs[i] (Array.getElem?_eq_getElem hi')
    have hu' : u = 3 := by
      simp only [List.length_replicate] at hu
      rw [Nat.mod_eq_of_lt hi, List.getElem?_replicate, if_pos hi] at hu
      exact (Option.some.inj hu).symm
    subst hu'
    rw [Array.getElem?_eq_getElem hi']
    obtain ⟨n, hn, h1, h2⟩ := cell_int hk
    exact ⟨n, by rw [hn], h1, h2⟩
  refine ⟨cs, fun i => intOf (cs.getD i undef), rfl, ⟨hsz, fun i hi => ?_⟩, fun i hi => ?_⟩
  · obtain ⟨n, hn, _⟩ := hat i hi
    have : cs.getD i undef = .int .i64 n := by simp [Array.getD_eq_getD_getElem?, hn]
    show cs[i]? = some (.int .i64 (intOf (cs.getD i undef)))
    rw [this, hn]; rfl
  · obtain ⟨n, hn, h1, h2⟩ := hat i hi
    have : cs.getD i undef = .int .i64 n := by simp [Array.getD_eq_getD_getElem?, hn]
    show _ ≤ intOf (cs.getD i undef) ∧ intOf (cs.getD i undef) ≤ _
    rw [this]; exact ⟨h1, h2⟩
def zeroV : Value := .agg (Array.replicate 256 (.int .i64 0))
end Go.Proofs.Ytaihlmedeebimaa.Lg
