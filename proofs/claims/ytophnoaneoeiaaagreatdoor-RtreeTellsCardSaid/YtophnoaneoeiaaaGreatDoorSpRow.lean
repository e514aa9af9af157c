/- What the rows' proofs share: the table of package math/bits out of the laid list, a world for the witness. -/
import Derived.Test.YtophnoaneoeiaaaGreatDoorSpM3
import Derived.Test.YtophnoaneoeiaaaGreatDoorCards
import Derived.Test.YtophnoaneoeiaaaGreatDoorTie
import Derived.ProofKit
import Derived.OpenShut
import Derived.ShutString
import Derived.ChangeOld
import Derived.Below
import Derived.Deep.DeepHandedRow
import Derived.Lib.LaidTab
import Derived.LaidSub
namespace Go.Proofs.YtophnoaneoeiaaaGreatDoor.Sp
set_option linter.all false
set_option maxRecDepth 100000
open Go.ChangeShapes Go.WideShapes Go.ChangeAt Go.RowKit

theorem own : ownKnob Tryz.prog.godebug = none := by kernel_rfl
theorem laidOut : laidOutB Tryz.prog = true := by kernel_rfl
def laidList : List (String × DataW Unit) := [("math/bits.deBruijn32tab", Rows.laid_math_bits_deBruijn32tab), ("math/bits.deBruijn64tab", Rows.laid_math_bits_deBruijn64tab)]
theorem gTab : Tryz.prog.globalNamed "math/bits.deBruijn64tab" = some 5 := by kernel_rfl
theorem tab_of {W : World} (h : laidMetH Tryz.prog laidList W) : Tab W := by
  have h0 : laidMet Tryz.prog laidList W := h
  have h1 : laidMet Tryz.prog [("math/bits.deBruijn64tab", Rows.laid_math_bits_deBruijn64tab)] W := h0.filter (fun x => x.1 == "math/bits.deBruijn64tab")
  have h2 : Lib.TabIs Tryz.prog W "math/bits.deBruijn64tab" .u8 (bru.map fun x => ((x : Nat) : Int)) := Lib.tabIs_of_head (rest := []) gTab (t := 117) (by kernel_rfl) Tryz.underlying117 Tryz.underlying5 (by kernel_rfl) (by kernel_rfl) h1
  unfold Lib.TabIs World.var? at h2
  rw [gTab] at h2
  simp only [Option.bind_some] at h2
  split at h2
  · rename_i cs t fr hb
    refine ⟨t, fr, ?_⟩
    rw [hb]
    have e : cs = numsOf .u8 bru := by
      have := Option.some.inj h2
      rw [this]; simp [numsOf, List.map_map, Function.comp_def]
    rw [e]
  · cases h2
/-- the smaller table, as its initialiser lays it -/
def bru32 : List Nat := [0, 1, 28, 2, 29, 14, 24, 3, 30, 22, 20, 15, 25, 17, 4, 8, 31, 27, 13, 23, 21, 19, 16, 7, 26, 12, 18, 6, 11, 5, 10, 9]
/-- a world for the witness: the settled one, the tables as their initialisers lay them -/
noncomputable def laidWorld (os : Os) : World :=
  let w := World.holding Tryz.prog os ⟨#[], #[], []⟩
  { w with heap := (w.heap.modify 4 fun | .cells _ t fr => .cells (numsOf .u8 bru32) t fr | o => o).modify 5 fun | .cells _ t fr => .cells (numsOf .u8 bru) t fr | o => o }
theorem laid_met (os : Os) (args : Array Value) : laidMet Tryz.prog laidList ((laidWorld os).forCall (fun _ _ => 0) ⟨#[], args, []⟩).memory :=
  laidMet_of_run' 8 (by kernel_rfl) (by kernel_rfl)
end Go.Proofs.YtophnoaneoeiaaaGreatDoor.Sp
