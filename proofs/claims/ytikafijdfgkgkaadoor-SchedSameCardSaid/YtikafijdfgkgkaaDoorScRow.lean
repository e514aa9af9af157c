/- What the rows' proofs share: the tables of all packages out of the laid list; a world for the witness. -/
import Derived.Test.YtikafijdfgkgkaaDoorScKit
import Derived.Test.YtikafijdfgkgkaaDoorWrRow
import Derived.Test.YtikafijdfgkgkaaDoorHkM4
namespace Go.Proofs.YtikafijdfgkgkaaDoor.Sc
set_option linter.all false
set_option maxRecDepth 100000
open Go.ChangeShapes Go.WideShapes Go.ChangeAt Go.RowKit
open Wr (Txt Any New)

def laidList : List (String × DataW Unit) := [("sodality/sha2.firstState", Rows.laid_sodality_sha2_firstState), ("sodality/sha2.roundConstants", Rows.laid_sodality_sha2_roundConstants), ("sodality/wire.classes", Rows.laid_sodality_wire_classes)]
theorem cells_lt {w : World} {g : Nat} {o : Obj} (h : w.heap[g]? = some o) : g < w.heap.size := (Array.getElem?_eq_some_iff.1 h).1
theorem tabs_of {W : World} (h : laidMetH Tryd.prog laidList W) : Tabs W := by
  have h0 : laidMet Tryd.prog laidList W := h
  have hs : laidMet Tryd.prog Sha.laidList W := h0.filter (fun x => x.1 == "sodality/sha2.firstState" || x.1 == "sodality/sha2.roundConstants")
  have hw : laidMet Tryd.prog Wr.laidList W := h0.filter (fun x => x.1 == "sodality/wire.classes")
  have h1 : laidMet Tryd.prog [("sodality/sha2.firstState", Rows.laid_sodality_sha2_firstState)] W := h0.filter (fun x => x.1 == "sodality/sha2.firstState")
  have h2 : laidMet Tryd.prog [("sodality/sha2.roundConstants", Rows.laid_sodality_sha2_roundConstants)] W := h0.filter (fun x => x.1 == "sodality/sha2.roundConstants")
  have tl1 : Sha.TabAt W 0 .u32 Sha.firstT := Sha.tabAt_of_is Sha.gFirst (Lib.tabIs_of_head (rest := []) Sha.gFirst (t := 65) (by kernel_rfl) Tryd.underlying65 Tryd.underlying57 (by kernel_rfl) (by kernel_rfl) h1)
  have l1 := tl1.lt
  have tl2 : Sha.TabAt W 1 .u32 Sha.consT := Sha.tabAt_of_is Sha.gRounds (Lib.tabIs_of_head (rest := []) Sha.gRounds (t := 75) (by kernel_rfl) Tryd.underlying75 Tryd.underlying57 (by kernel_rfl) (by kernel_rfl) h2)
  have l2 := tl2.lt
  have hW := Wr.tables_of0 hw
  have l4 : 2 < W.heap.size := by obtain ⟨t, fr, hc⟩ := hW; exact cells_lt hc
  have hG : 3 ≤ W.heap.size := by omega
  exact ⟨Sha.tables_of hs hG, ⟨hG, hW⟩⟩

/-- a world for the witness: the settled one, the tables as their initialisers lay them -/
noncomputable def laidWorld (os : Os) : World :=
  let w := World.holding Tryd.prog os ⟨#[], #[], []⟩
  { w with heap := ((w.heap.modify 0 fun | .cells _ t fr => .cells (Sha.numsOf .u32 Sha.firstT) t fr | o => o).modify 1 fun | .cells _ t fr => .cells (Sha.numsOf .u32 Sha.consT) t fr | o => o).modify 2 fun | .cells _ t fr => .cells Wr.classCells t fr | o => o }
theorem laid_met (os : Os) (args : Array Value) : laidMet Tryd.prog laidList ((laidWorld os).forCall (fun _ _ => 0) ⟨#[], args, []⟩).memory :=
  laidMet_of_run' 8 (by kernel_rfl) (by kernel_rfl)
end Go.Proofs.YtikafijdfgkgkaaDoor.Sc
