/-
  DERIVED. GIVEN WITH THE SEED: THE CARDS: each row of YtophnoaneoeiaaaDoorRows.lean that lists a variable, with what it lists TIED to the program's text (the seventh form; the later family's looks); each row that meets fmt, with fmt's text TOLD by the authors' own Lean function (tested against real Go, not proved from fmt's source: count such statements apart). THE CARD IS WHAT COUNTS. Prove the row's statement (the work); the ties are given (YtophnoaneoeiaaaDoorTie.lean); close each card by the builder's one call (the guide's Derived/Test/ToyasCard.lean, 'card_holds'). Laid BY PROGRAM, IN A SANDBOX (cutbox-door.mjs). By AI agents, Wed Nov 11 2026. No macro, syntax, notation, axiom, sorry.
-/
import Derived.Test.YtophnoaneoeiaaaDoorRows
import GoSem.ClaimSeven
namespace Go.Proofs.YtophnoaneoeiaaaDoor
namespace Rows

/-- THE TIED CARD OF 'sodalitylaw14.RtreeStands'. -/
def rtreeStandsCard : Claim7 := { stood := { row := rtreeStandsRow, standIns := [], harness := (true, "96adf3f4cb0b68c7c5089ff46e0f545741a85f229c3cba77ff21e141b223e332"), looks := false }, kinds := [], alts := [], laidByText := true, laidKinds := [.data, .data, .data, .data, .data], laidTests := true, laidLooks := .later }
def RtreeStandsCardSaid : Prop := Claim7.holds Tryd.pinned (.plain (OpenSpec.ofChange rtreeStandsSpec)) rtreeStandsCard

/-- THE SECOND FORM's CARD OF 'sodalitylaw14.RtreeStands'. -/
def rtreeStandsUptoCard : Claim7 := { stood := { row := rtreeStandsUptoRow, standIns := [], harness := (true, "96adf3f4cb0b68c7c5089ff46e0f545741a85f229c3cba77ff21e141b223e332"), looks := false }, kinds := [], alts := [], laidByText := true, laidKinds := [.data, .data, .data, .data, .data], laidTests := true, laidLooks := .later }
def RtreeStandsUptoCardSaid : Prop := Claim7.holds Tryd.pinned (.plain (OpenSpec.upto rtreeStandsSpec)) rtreeStandsUptoCard
end Rows
end Go.Proofs.YtophnoaneoeiaaaDoor
