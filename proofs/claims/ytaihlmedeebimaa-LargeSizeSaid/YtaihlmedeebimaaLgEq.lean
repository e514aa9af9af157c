/- Two polynomials are compared: what is the same is told to be. -/
import Derived.Test.YtaihlmedeebimaaLgWalkJ
import Derived.Laws.StructEq
namespace Go.Proofs.Ytaihlmedeebimaa.Lg
open Go.RowKit
set_option linter.all false

theorem eq_int (d : Nat) (a : Int) (w : World) : (Op.equalIn (d + 1) 3 (.int .i64 a) (.int .i64 a)).run Try.prog w = .ok true w := by
  simp [Op.equalIn, run_underlying Try.underlying3]
theorem int_size : ∃ i : TypeInfo, Try.prog.info? 3 = some i ∧ i.size = 1 := by
  have h : (Try.prog.info? 3).map (·.size) = some 1 := by kernel_rfl
  obtain ⟨i, hi, e⟩ := Option.map_eq_some_iff.1 h
  exact ⟨i, hi, e⟩
theorem int_agg (w : World) : (isAgg 3).run Try.prog w = .ok false w := by
  unfold isAgg
  rw [Sem.run_bind, run_underlying Try.underlying3 w]
  simp
theorem part_at {cs : Array Value} {p : Nat → Int} (h : IsP cs p) (i : Nat) (hi : i < 256) (w : World) : (part 3 cs i).run Try.prog w = .ok (.int .i64 (p i)) w := by
  obtain ⟨ti, h1, h2⟩ := int_size
  simp [part, int_agg, h.2 i hi]
theorem eq_poly (d : Nat) {cs : Array Value} {p : Nat → Int} (h : IsP cs p) (w : World) : (Op.equalIn (d + 2) 23 (.agg cs) (.agg cs)).run Try.prog w = .ok true w := by
  obtain ⟨ti, h1, h2⟩ := int_size
  rw [Op.equalIn]
  simp only [Sem.run_bind, run_underlying Try.underlying23, Result.andThen_ok, sizeOf, typeInfo, h1, Sem.run_pure, run_program]
  rw [Std.Legacy.Range.forIn_eq_forIn_range']
  have hl : ∀ (l : List Nat), (∀ i ∈ l, i < 256) → (Sem.run Try.prog (forIn l (none, ()) fun i (__s : Option Bool × Unit) => do
            let __do_lift ← part 3 cs (i * ti.size)
            let __do_lift_1 ← part 3 cs (i * ti.size)
            let __do_lift ← Op.equalIn (d + 1) 3 __do_lift __do_lift_1
            if (!__do_lift) = true then pure (ForInStep.done (some false, ())) else pure (ForInStep.yield (none, ()))) w) = .ok (none, ()) w := by
    intro l
    induction l with
    | nil => intro _; simp
    | cons i l ih =>
      intro hm
      rw [List.forIn_cons]
      simp only [Sem.run_bind, h2, Nat.mul_one, part_at h i (hm i (by simp)), Result.andThen_ok, eq_int, Bool.not_true, Bool.false_eq_true, if_false, Sem.run_pure]
      have := ih fun j hj => hm j (by simp [hj])
      simp only [h2, Nat.mul_one] at this
      exact this
  have hm : ∀ i ∈ List.range' [:256].start [:256].size [:256].step, i < 256 := by
    intro i hi
    rw [show [:256].start = 0 from rfl, show [:256].step = 1 from rfl, show [:256].size = 256 by decide] at hi
    obtain ⟨k, h1, h2⟩ := List.mem_range'.1 hi
    omega
  rw [hl _ hm]
  simp
theorem noguard : Try.prog.eqGuardType Try.prog.depth 23 = false := by kernel_rfl
theorem guard_poly (op : BinOp) (x y : Operand) (cs ds : Array Value) (w : World) : (eqGuard op 23 x y (.agg cs) (.agg ds)).run Try.prog w = .ok () w := by
  unfold eqGuard
  split
  all_goals simp [noguard]
theorem run_eq {cs : Array Value} {p : Nat → Int} (h : IsP cs p) (w : World) : (binOp .eql 23 (.agg cs) (.agg cs)).run Try.prog w = .ok (.bool true) w := by
  unfold binOp
  simp only [Sem.run_bind, Sem.run_pure]
  rw [show Op.equal 23 (.agg cs) (.agg cs) = Op.equalIn (9998 + 2) 23 (.agg cs) (.agg cs) from rfl, eq_poly 9998 h]
  simp
theorem run_neq {cs : Array Value} {p : Nat → Int} (h : IsP cs p) (w : World) : (binOp .neq 23 (.agg cs) (.agg cs)).run Try.prog w = .ok (.bool false) w := by
  unfold binOp
  simp only [Sem.run_bind, Sem.run_pure]
  rw [show Op.equal 23 (.agg cs) (.agg cs) = Op.equalIn (9998 + 2) 23 (.agg cs) (.agg cs) from rfl, eq_poly 9998 h]
  simp
end Go.Proofs.Ytaihlmedeebimaa.Lg
