/- What the rows' proofs share: the tables of all packages out of the laid list; a world for the witness. -/
import Derived.Test.YtfhibjpkbbbfpaaDoorBxKit
import Derived.Test.YtfhibjpkbbbfpaaDoorWrRow
namespace Go.Proofs.YtfhibjpkbbbfpaaDoor.Bx
set_option linter.all false
open Go.ChangeShapes Go.WideShapes Go.ChangeAt Go.RowKit

def laidList : List (String × DataW Unit) := [("sodality/keccak.roundConstants", Rows.laid_sodality_keccak_roundConstants), ("sodality/keccak.turns", Rows.laid_sodality_keccak_turns), ("sodality/keccak.places", Rows.laid_sodality_keccak_places), ("sodality/sha2.firstState", Rows.laid_sodality_sha2_firstState), ("sodality/sha2.roundConstants", Rows.laid_sodality_sha2_roundConstants), ("sodality/wire.classes", Rows.laid_sodality_wire_classes)]
theorem cells_lt {w : World} {g : Nat} {o : Obj} (h : w.heap[g]? = some o) : g < w.heap.size := (Array.getElem?_eq_some_iff.1 h).1
theorem tabs_of {W : World} (h : laidMetH Tryd.prog laidList W) : Tabs W := by
  have h0 : laidMet Tryd.prog laidList W := h
  have hk : laidMet Tryd.prog Kec.laidList W := h0.filter (fun x => x.1 == "sodality/keccak.roundConstants" || x.1 == "sodality/keccak.turns" || x.1 == "sodality/keccak.places")
  have hs : laidMet Tryd.prog Sha.laidList W := h0.filter (fun x => x.1 == "sodality/sha2.firstState" || x.1 == "sodality/sha2.roundConstants")
  have hw : laidMet Tryd.prog Wr.laidList W := h0.filter (fun x => x.1 == "sodality/wire.classes")
  have h1 : laidMet Tryd.prog [("sodality/sha2.firstState", Rows.laid_sodality_sha2_firstState)] W := h0.filter (fun x => x.1 == "sodality/sha2.firstState")
  have h2 : laidMet Tryd.prog [("sodality/sha2.roundConstants", Rows.laid_sodality_sha2_roundConstants)] W := h0.filter (fun x => x.1 == "sodality/sha2.roundConstants")
  have h3 : laidMet Tryd.prog [("sodality/keccak.roundConstants", Rows.laid_sodality_keccak_roundConstants)] W := h0.filter (fun x => x.1 == "sodality/keccak.roundConstants")
  have h4 : laidMet Tryd.prog [("sodality/keccak.turns", Rows.laid_sodality_keccak_turns)] W := h0.filter (fun x => x.1 == "sodality/keccak.turns")
  have h5 : laidMet Tryd.prog [("sodality/keccak.places", Rows.laid_sodality_keccak_places)] W := h0.filter (fun x => x.1 == "sodality/keccak.places")
  have tl1 : Sha.TabAt W 2 .u32 Sha.firstT := Sha.tabAt_of_is Sha.gFirst (Lib.tabIs_of_head (rest := []) Sha.gFirst (t := 102) (by kernel_rfl) Tryd.underlying102 Tryd.underlying72 (by kernel_rfl) (by kernel_rfl) h1)
  have l1 := tl1.lt
  have tl2 : Sha.TabAt W 5 .u32 Sha.consT := Sha.tabAt_of_is Sha.gRounds (Lib.tabIs_of_head (rest := []) Sha.gRounds (t := 87) (by kernel_rfl) Tryd.underlying87 Tryd.underlying72 (by kernel_rfl) (by kernel_rfl) h2)
  have l2 := tl2.lt
  have tl3 : Kec.TabAt W 1 .u64 Kec.roundsT := Kec.tabAt_of_is Kec.gRounds (Lib.tabIs_of_head (rest := []) Kec.gRounds (t := 97) (by kernel_rfl) Tryd.underlying97 Tryd.underlying71 (by kernel_rfl) (by kernel_rfl) h3)
  have l3 := tl3.lt
  have tl4 : Kec.TabAt W 4 .i64 Kec.turnsT := Kec.tabAt_of_is Kec.gTurns (Lib.tabIs_of_head (rest := []) Kec.gTurns (t := 108) (by kernel_rfl) Tryd.underlying108 Tryd.underlying3 (by kernel_rfl) (by kernel_rfl) h4)
  have l4 := tl4.lt
  have tl5 : Kec.TabAt W 3 .i64 Kec.placesT := Kec.tabAt_of_is Kec.gPlaces (Lib.tabIs_of_head (rest := []) Kec.gPlaces (t := 108) (by kernel_rfl) Tryd.underlying108 Tryd.underlying3 (by kernel_rfl) (by kernel_rfl) h5)
  have l5 := tl5.lt
  have hW := Wr.tables_of hw
  have l6 : 0 < W.heap.size := by obtain ⟨t, fr, hc⟩ := hW; exact cells_lt hc
  have hG : 6 ≤ W.heap.size := by omega
  exact ⟨Kec.tables_of hk hG, Sha.tables_of hs hG, hW⟩

/-- a world for the witness: the settled one, the tables as their initialisers lay them -/
noncomputable def laidWorld (os : Os) : World :=
  let w := World.holding Tryd.prog os ⟨#[], #[], []⟩
  { w with heap := (((((w.heap.modify 1 fun | .cells _ t fr => .cells (Kec.numsOf .u64 Kec.roundsT) t fr | o => o).modify 4 fun | .cells _ t fr => .cells (Kec.numsOf .i64 Kec.turnsT) t fr | o => o).modify 3 fun | .cells _ t fr => .cells (Kec.numsOf .i64 Kec.placesT) t fr | o => o).modify 2 fun | .cells _ t fr => .cells (Sha.numsOf .u32 Sha.firstT) t fr | o => o).modify 5 fun | .cells _ t fr => .cells (Sha.numsOf .u32 Sha.consT) t fr | o => o).modify 0 fun | .cells _ t fr => .cells Wr.classCells t fr | o => o }
theorem laid_met (os : Os) (args : Array Value) : laidMet Tryd.prog laidList ((laidWorld os).forCall (fun _ _ => 0) ⟨#[], args, []⟩).memory :=
  laidMet_of_run' 8 (by kernel_rfl) (by kernel_rfl)
end Go.Proofs.YtfhibjpkbbbfpaaDoor.Bx
