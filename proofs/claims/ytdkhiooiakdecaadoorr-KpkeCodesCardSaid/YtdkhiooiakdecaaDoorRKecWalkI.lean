/- Walks: atOnce and the four functions. -/
import Derived.Test.YtdkhiooiakdecaaDoorRKecWalkH
namespace Go.Proofs.YtdkhiooiakdecaaDoorR.Kec
set_option linter.all false
open Go.RowKit

theorem sponge_len (r e : Nat) (bs : List Nat) (n : Nat) : (sponge r e bs n).length = n := outs_len _ _ _
/-- bytes in a new block, and nothing that was there has turned -/
def Out (w : World) (bs : List Nat) (e' : Ending) (w' : World) : Prop :=
  ∃ h, e' = .returned (.slice (some ⟨h, 0, none⟩) bs.length bs.length) ∧ w.heap.size ≤ h ∧ w'.rowIs h 5 bs.length (byteRow bs) ∧ Below w.heap.size w w'

theorem below_of_only {w w1 w2 : World} {g : Nat} (h : Below w.heap.size w w1) (k : w1.grownBy w2 (some g)) (hg : w.heap.size ≤ g) : Below w.heap.size w w2 :=
  ⟨k.os.trans h.os, k.tape.trans h.tape, k.output.trans h.output, Nat.le_trans h.size k.size, fun i hi => (k.block i (Nat.lt_of_lt_of_le hi h.size) (by intro e; injection e; omega)).trans (h.block i hi)⟩

end Go.Proofs.YtdkhiooiakdecaaDoorR.Kec
