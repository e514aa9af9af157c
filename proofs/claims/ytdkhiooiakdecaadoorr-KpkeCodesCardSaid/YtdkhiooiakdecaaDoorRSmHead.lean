/- Walks: head. Written by tools/mk_smhead.py. -/
import Derived.Test.YtdkhiooiakdecaaDoorRSmEq
namespace Go.Proofs.YtdkhiooiakdecaaDoorR.Sm
open Go.RowKit
set_option linter.all false

/-- blocks in which polynomials lie -/
def Sx (l : List (Nat × Array Value)) (w : World) : Prop := ∀ x ∈ l, w.heap[x.1]? = some (.cells x.2 26 (0, 0))
theorem sx_below {l : List (Nat × Array Value)} {w w' : World} (h : Sx l w) (hB : Below w.heap.size w w') : Sx l w' := fun x hx => by
  have := h x hx
  exact (hB.block x.1 (Array.getElem?_eq_some_iff.1 this).1).trans this
theorem sx_drew {l : List (Nat × Array Value)} {w : World} (h : Sx l w) : Sx l w.drew := h
theorem below_of_drew' {w w' : World} (h : Below w.heap.size w w') : Below w.heap.size w w' := h
theorem exec_load {o : Oper} {ev : Operand → Value} {w : World} (x : Operand) (ho : o.op = .load 26 x) (g : Nat) (cs : Array Value) (hx : ev x = .pointer (some ⟨g, 0, none⟩)) (hg : w.heap[g]? = some (.cells cs 26 (0, 0)))
    (hi : (Tryd.prog.info? 26).map (·.size) = some cs.size) : (execOp ev o).run Tryd.prog w = .ok (.value (.agg cs)) w := by
  unfold execOp
  simp only [ho, hx, Instr.loadAt, Instr.sureAddr, Sem.run_bind, Sem.run_pure, Result.andThen_ok, run_loadVar_row w g 26 26 cs (0, 0) _ hg Tryd.underlying26 rfl hi]
theorem exec_eq {o : Oper} {ev : Operand → Value} {w : World} (x y : Operand) (t : TypeId) (ho : o.op = .binOp .eql 26 x y t) (cs : Array Value) {p : Nat → Int} (h : IsP cs p) (hx : ev x = .agg cs) (hy : ev y = .agg cs) :
    (execOp ev o).run Tryd.prog w = .ok (.value (.bool true)) w := by
  unfold execOp
  simp only [ho, hx, hy, Sem.run_bind, Sem.run_pure, Result.andThen_ok, guard_poly, run_eq h]
theorem exec_neq {o : Oper} {ev : Operand → Value} {w : World} (x y : Operand) (t : TypeId) (ho : o.op = .binOp .neq 26 x y t) (cs : Array Value) {p : Nat → Int} (h : IsP cs p) (hx : ev x = .agg cs) (hy : ev y = .agg cs) :
    (execOp ev o).run Tryd.prog w = .ok (.value (.bool false)) w := by
  unfold execOp
  simp only [ho, hx, hy, Sem.run_bind, Sem.run_pure, Result.andThen_ok, guard_poly, run_neq h]
theorem sx_cell {l : List (Nat × Array Value)} {w : World} (h : Sx l w) (x : Nat × Array Value) (hx : x ∈ l) (i : Nat) {v : Value} (hv : x.2[i]? = some v) : w.cell? ⟨x.1, i, none⟩ = some v := by
  rw [cell_of_row w x.1 i _ _ _ (h x hx), hv]
theorem isp_set {cs : Array Value} {p : Nat → Int} (h : IsP cs p) (i : Nat) (v : Int) : IsP (cs.setIfInBounds i (.int .i64 v)) (fun j => if j = i then v else p j) := by
  refine ⟨by simp [h.1], fun j hj => ?_⟩
  rw [Array.getElem?_setIfInBounds]
  by_cases e : i = j
  · subst e
    rw [if_pos rfl, if_pos (by rw [h.1]; exact hj)]
    show _ = some (Value.int .i64 (if i = i then v else p i))
    rw [if_pos rfl]
  · rw [if_neg e, h.2 j hj]
    show _ = some (Value.int .i64 (if j = i then v else p j))
    rw [if_neg (fun x => e x.symm)]
def p0 : Nat → Int := fun i => if i = 0 then -1 else 0
theorem p0_fits : Fits p0 := fun i _ => by unfold p0; split <;> omega
theorem f0_at : nv (ntt (redp p0) 0) = 3328 ∧ nv (ntt (redp p0) 1) = 0 ∧ nv (ntt (redp p0) 254) = 3328 ∧ nv (redp p0 0) = 3328 := by decide +kernel

end Go.Proofs.YtdkhiooiakdecaaDoorR.Sm
