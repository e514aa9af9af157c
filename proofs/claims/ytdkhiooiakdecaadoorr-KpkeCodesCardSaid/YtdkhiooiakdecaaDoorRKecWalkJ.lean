/- Walks: head, great; bytes as strings. -/
import Derived.Test.YtdkhiooiakdecaaDoorRKecWalkI
import Derived.Test.YtdkhiooiakdecaaDoorRKecEval
import Derived.Laws.BytesArg
namespace Go.Proofs.YtdkhiooiakdecaaDoorR.Kec
set_option linter.all false
open Go.RowKit

/-- bytes as a string -/
def txt (bs : List Nat) : ByteArray := strOfNums (bs.map fun x => ((x : Nat) : Int))
theorem conv_row {w : World} {h n k c : Nat} {bs : List Nat} (hrow : w.rowIs h 5 n (byteRow bs)) (hk : k ≤ n) (hn : bs.length = n) :
    (convert 22 9 (.slice (some ⟨h, 0, none⟩) k c)).run Tryd.prog w = .ok (.string (txt (bs.take k))) w := by
  refine run_convert_bytes_arg (P := Tryd.prog) w 22 5 Tryd.underlying22 Tryd.underlying5 h 0 k c _ (by simp; omega) ?_ 9 Tryd.underlying9
  intro i hi
  rw [Nat.zero_add, hrow.cell (by omega)]
  simp [byteRow, gt, List.getD_eq_getElem?_getD, List.getElem?_take, hi]
  have : i < bs.length := by omega
  simp [this]
theorem conv_all {w : World} {h n c : Nat} {bs : List Nat} (hrow : w.rowIs h 5 n (byteRow bs)) (hn : bs.length = n) :
    (convert 22 9 (.slice (some ⟨h, 0, none⟩) n c)).run Tryd.prog w = .ok (.string (txt bs)) w := by
  have := conv_row (c := c) hrow (Nat.le_refl n) hn
  rwa [List.take_of_length_le (by omega)] at this

end Go.Proofs.YtdkhiooiakdecaaDoorR.Kec
