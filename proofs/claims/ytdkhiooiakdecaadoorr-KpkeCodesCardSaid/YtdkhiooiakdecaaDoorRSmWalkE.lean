/- Walks: Add, Sub. Written by tools/mk_smadd.py. -/
import Derived.Test.YtdkhiooiakdecaaDoorRSmWalkD
namespace Go.Proofs.YtdkhiooiakdecaaDoorR.Sm
open Go.RowKit
set_option linter.all false

theorem step_of {P : Program} {ops : Array Oper} {o : Oper} {a : Act} {w : World} {K : Act → World → Prop} {Q : Exit → Act → World → Prop} {E : Prop} {ts : Array Value} (hw : Region.wanted o (yielded ops ts) = true)
    (h : Oper.wp P o a w K Q) : if Region.wanted o (yielded ops ts) = true then Oper.wp P o a w K Q else E := by rw [if_pos hw]; exact h
theorem below_of_drew {w w' : World} (h : Below w.drew.heap.size w.drew w') : Below w.heap.size w w' := ⟨h.os, h.tape, h.output, h.size, h.block⟩
/-- a region that is shown not to panic; the post laid open, so that its limb at a panic is seen at once -/
theorem region_calm {P : Program} {id : Nat} {ops : Array Oper} {b : Bool} {Q : Exit → Act → World → Prop} {a : Act} {w : World}
    (h : (Code.region id ops b).wp P (fun e a w => match e with | .panic _ => False | e => Q e a w) a w) : (Code.region id ops b).wp P Q a w :=
  Code.wp_mono (fun e a w h => by cases e <;> first | exact h | exact (h : False).elim) h

end Go.Proofs.YtdkhiooiakdecaaDoorR.Sm
