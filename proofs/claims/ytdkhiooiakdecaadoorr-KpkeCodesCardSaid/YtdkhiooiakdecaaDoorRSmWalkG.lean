/- Walks: the iterators of the powers, level. -/
import Derived.Test.YtdkhiooiakdecaaDoorRSmWalkF
namespace Go.Proofs.YtdkhiooiakdecaaDoorR.Sm
open Go.RowKit
set_option linter.all false

def zvi : Nat → Int := fun i => nv (zv i)
def one1 (k : Nat) : Nat → Value := fun _ => .int .i64 (k : Int)
theorem one1_set {w : World} {b k k' : Nat} {t : TypeId} (h : w.rowIs b t 1 (one1 k)) : (w.setCell ⟨b, 0, none⟩ (.int .i64 (k' : Int))).rowIs b t 1 (one1 k') :=
  (h.set 0 _).congr fun i hi => by obtain rfl : i = 0 := by omega
                                   rfl
end Go.Proofs.YtdkhiooiakdecaaDoorR.Sm
