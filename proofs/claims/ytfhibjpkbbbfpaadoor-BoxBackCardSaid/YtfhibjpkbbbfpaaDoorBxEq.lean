/- Two arrays of thirty-two bytes are compared. -/
import Derived.Test.YtfhibjpkbbbfpaaDoorBxKit
import Derived.Laws.StructEq
namespace Go.Proofs.YtfhibjpkbbbfpaaDoor.Bx
set_option linter.all false
open Go.RowKit Wr

theorem eq_byte (d : Nat) (a b : Int) (w : World) : (Op.equalIn (d + 1) 5 (.int .u8 a) (.int .u8 b)).run Tryd.prog w = .ok (a == b) w := by
  simp [Op.equalIn, run_underlying Tryd.underlying5]
theorem byte_agg (w : World) : (isAgg 5).run Tryd.prog w = .ok false w := by
  unfold isAgg
  rw [Sem.run_bind, run_underlying Tryd.underlying5 w]
  simp
theorem byte_part {t : List Nat} (i : Nat) (hi : i < t.length) (w : World) : (part 5 (bcells t).toArray i).run Tryd.prog w = .ok (.int .u8 ((gt t i : Nat) : Int)) w := by
  have h : (bcells t).toArray[i]? = some (.int .u8 ((gt t i : Nat) : Int)) := by simpa using bcells_at t i hi
  simp [part, byte_agg, h]
theorem eq_tag (d : Nat) {a b : List Nat} (ha : a.length = 32) (hb : b.length = 32) (w : World) : (Op.equalIn (d + 2) 37 (.agg (bcells a).toArray) (.agg (bcells b).toArray)).run Tryd.prog w = .ok (decide (a = b)) w := by
  obtain ⟨ti, h1, hz, h2, -⟩ := byteInfo
  rw [Op.equalIn]
  simp only [Sem.run_bind, run_underlying Tryd.underlying37, Result.andThen_ok, sizeOf, typeInfo, h1, Sem.run_pure, run_program]
  rw [Std.Legacy.Range.forIn_eq_forIn_range']
  have hl : ∀ (l : List Nat), (∀ i ∈ l, i < 32) → (Sem.run Tryd.prog (forIn l (none, ()) fun i (__s : Option Bool × Unit) => do
            let __do_lift ← part 5 (bcells a).toArray (i * ti.size)
            let __do_lift_1 ← part 5 (bcells b).toArray (i * ti.size)
            let __do_lift ← Op.equalIn (d + 1) 5 __do_lift __do_lift_1
            if (!__do_lift) = true then pure (ForInStep.done (some false, ())) else pure (ForInStep.yield (none, ()))) w) = .ok (if ∀ i ∈ l, gt a i = gt b i then (none, ()) else (some false, ())) w := by
    intro l
    induction l with
    | nil => intro _; simp
    | cons i l ih =>
      intro hm
      have hi := hm i (by simp)
      have ih := ih fun j hj => hm j (by simp [hj])
      rw [List.forIn_cons]
      simp only [Sem.run_bind, h2, Nat.mul_one, byte_part i (show i < a.length by omega), byte_part i (show i < b.length by omega), Result.andThen_ok, eq_byte]
      by_cases e : gt a i = gt b i
      · have e1 : (((gt a i : Nat) : Int) == ((gt b i : Nat) : Int)) = true := by rw [e]; simp
        rw [e1]
        simp only [Bool.not_true, Bool.false_eq_true, if_false, Sem.run_pure, Result.andThen_ok]
        simp only [h2, Nat.mul_one] at ih
        have key : (if ∀ j ∈ l, gt a j = gt b j then ((none : Option Bool), ()) else (some false, ())) = (if ∀ j ∈ i :: l, gt a j = gt b j then (none, ()) else (some false, ())) := by
          by_cases e2 : ∀ j ∈ l, gt a j = gt b j
          · rw [if_pos e2, if_pos (fun j hj => by
              rcases List.mem_cons.1 hj with h | hj
              · rw [h]; exact e
              · exact e2 j hj)]
          · rw [if_neg e2, if_neg (fun h => e2 fun j hj => h j (List.mem_cons_of_mem _ hj))]
        rw [← key]
        exact ih
      · have e1 : (((gt a i : Nat) : Int) == ((gt b i : Nat) : Int)) = false := by rw [beq_eq_false_iff_ne]; omega
        have hne : ¬ ∀ j ∈ i :: l, gt a j = gt b j := fun h => e (h i (List.mem_cons_self ..))
        rw [e1, show (if ∀ j ∈ i :: l, gt a j = gt b j then ((none : Option Bool), ()) else (some false, ())) = (some false, ()) from if_neg hne]
        simp
  have hm : ∀ i ∈ List.range' [:32].start [:32].size [:32].step, i < 32 := by
    intro i hi
    rw [show [:32].start = 0 from rfl, show [:32].step = 1 from rfl, show [:32].size = 32 by decide] at hi
    obtain ⟨k, h1, h2⟩ := List.mem_range'.1 hi
    omega
  rw [hl _ hm]
  by_cases e : a = b
  · rw [if_pos (by subst e; intros; rfl), decide_eq_true e]; simp
  · rw [if_neg, decide_eq_false e]
    · simp
    · intro h
      apply e
      refine ext_gt ha hb fun i hi => h i ?_
      rw [show [:32].start = 0 from rfl, show [:32].step = 1 from rfl, show [:32].size = 32 by decide]
      exact List.mem_range'.2 ⟨i, hi, by omega⟩
theorem noguard : Tryd.prog.eqGuardType Tryd.prog.depth 37 = false := by kernel_rfl
theorem guard_tag (op : BinOp) (x y : Operand) (cs ds : Array Value) (w : World) : (eqGuard op 37 x y (.agg cs) (.agg ds)).run Tryd.prog w = .ok () w := by
  unfold eqGuard
  split
  all_goals simp [noguard]
theorem run_eq {a b : List Nat} (ha : a.length = 32) (hb : b.length = 32) (w : World) : (binOp .eql 37 (.agg (bcells a).toArray) (.agg (bcells b).toArray)).run Tryd.prog w = .ok (.bool (decide (a = b))) w := by
  unfold binOp
  simp only [Sem.run_bind, Sem.run_pure]
  rw [show Op.equal 37 (.agg (bcells a).toArray) (.agg (bcells b).toArray) = Op.equalIn (9998 + 2) 37 (.agg (bcells a).toArray) (.agg (bcells b).toArray) from rfl, eq_tag 9998 ha hb]
  simp
theorem exec_eq {o : Oper} {ev : Operand → Value} {w : World} (x y : Operand) (t : TypeId) (ho : o.op = .binOp .eql 37 x y t) {a b : List Nat} (ha : a.length = 32) (hb : b.length = 32) (hx : ev x = .agg (bcells a).toArray) (hy : ev y = .agg (bcells b).toArray) :
    (execOp ev o).run Tryd.prog w = .ok (.value (.bool (decide (a = b)))) w := by
  unfold execOp
  simp only [ho, hx, hy, Sem.run_bind, Sem.run_pure, Result.andThen_ok, guard_tag, run_eq ha hb]
theorem exec_load_run {o : Oper} {ev : Operand → Value} {w : World} (ty : TypeId) (x : Operand) (ho : o.op = .load ty x) (ad : Addr) (v : Value) (hx : ev x = .pointer (some ad)) (hl : (loadVar ty ad).run Tryd.prog w = .ok v w) :
    (execOp ev o).run Tryd.prog w = .ok (.value v) w := by
  unfold execOp
  simp only [ho, hx, Instr.loadAt, Instr.sureAddr, Sem.run_bind, Sem.run_pure, Result.andThen_ok, hl]
end Go.Proofs.YtfhibjpkbbbfpaaDoor.Bx
