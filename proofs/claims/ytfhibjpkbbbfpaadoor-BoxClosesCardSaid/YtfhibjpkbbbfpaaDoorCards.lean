/-
  DERIVED. GIVEN WITH THE SEED: THE CARDS: each row of YtfhibjpkbbbfpaaDoorRows.lean that lists a variable, with what it lists TIED to the program's text (the seventh form; the later family's looks); each row that meets fmt, with fmt's text TOLD by the authors' own Lean function (tested against real Go, not proved from fmt's source: count such statements apart). THE CARD IS WHAT COUNTS. Prove the row's statement (the work); the ties are given (YtfhibjpkbbbfpaaDoorTie.lean); close each card by the builder's one call (the guide's Derived/Test/ToyasCard.lean, 'card_holds'). Laid BY PROGRAM, IN A SANDBOX (cutbox-door.mjs). By AI agents, Wed Nov 11 2026. No macro, syntax, notation, axiom, sorry.
-/
import Derived.Test.YtfhibjpkbbbfpaaDoorRows
import GoSem.ClaimSeven
namespace Go.Proofs.YtfhibjpkbbbfpaaDoor
namespace Rows

/-- THE TIED CARD OF 'sodalitylaw12.BoxCloses'. -/
def boxClosesCard : Claim7 := { stood := { row := boxClosesRow, standIns := [], harness := (true, "6edbe8382da9223115eaac06878be63ed6f303af3323c5a2f71173d6f037747a"), looks := false }, kinds := [], alts := [], laidByText := true, laidKinds := [.data, .data, .data, .data, .data, .data], laidTests := true, laidLooks := .later }
def BoxClosesCardSaid : Prop := Claim7.holds Tryd.pinned (.plain (OpenSpec.ofChange boxClosesSpec)) boxClosesCard

/-- THE TIED CARD OF 'sodalitylaw12.BoxBack'. -/
def boxBackCard : Claim7 := { stood := { row := boxBackRow, standIns := [], harness := (true, "6edbe8382da9223115eaac06878be63ed6f303af3323c5a2f71173d6f037747a"), looks := false }, kinds := [], alts := [], laidByText := true, laidKinds := [.data, .data, .data, .data, .data, .data], laidTests := true, laidLooks := .later }
def BoxBackCardSaid : Prop := Claim7.holds Tryd.pinned (.plain (OpenSpec.ofChange boxBackSpec)) boxBackCard

/-- THE TIED CARD OF 'sodalitylaw12.BoxBound'. -/
def boxBoundCard : Claim7 := { stood := { row := boxBoundRow, standIns := [], harness := (true, "6edbe8382da9223115eaac06878be63ed6f303af3323c5a2f71173d6f037747a"), looks := false }, kinds := [], alts := [], laidByText := true, laidKinds := [.data, .data, .data, .data, .data, .data], laidTests := true, laidLooks := .later }
def BoxBoundCardSaid : Prop := Claim7.holds Tryd.pinned (.plain (OpenSpec.ofChange boxBoundSpec)) boxBoundCard

/-- THE TIED CARD OF 'sodalitylaw12.BoxStreams'. -/
def boxStreamsCard : Claim7 := { stood := { row := boxStreamsRow, standIns := [], harness := (true, "6edbe8382da9223115eaac06878be63ed6f303af3323c5a2f71173d6f037747a"), looks := false }, kinds := [], alts := [], laidByText := true, laidKinds := [.data, .data, .data, .data, .data, .data], laidTests := true, laidLooks := .later }
def BoxStreamsCardSaid : Prop := Claim7.holds Tryd.pinned (.plain (OpenSpec.ofChange boxStreamsSpec)) boxStreamsCard

/-- THE SECOND FORM's CARD OF 'sodalitylaw12.BoxCloses'. -/
def boxClosesUptoCard : Claim7 := { stood := { row := boxClosesUptoRow, standIns := [], harness := (true, "6edbe8382da9223115eaac06878be63ed6f303af3323c5a2f71173d6f037747a"), looks := false }, kinds := [], alts := [], laidByText := true, laidKinds := [.data, .data, .data, .data, .data, .data], laidTests := true, laidLooks := .later }
def BoxClosesUptoCardSaid : Prop := Claim7.holds Tryd.pinned (.plain (OpenSpec.upto boxClosesSpec)) boxClosesUptoCard

/-- THE SECOND FORM's CARD OF 'sodalitylaw12.BoxBack'. -/
def boxBackUptoCard : Claim7 := { stood := { row := boxBackUptoRow, standIns := [], harness := (true, "6edbe8382da9223115eaac06878be63ed6f303af3323c5a2f71173d6f037747a"), looks := false }, kinds := [], alts := [], laidByText := true, laidKinds := [.data, .data, .data, .data, .data, .data], laidTests := true, laidLooks := .later }
def BoxBackUptoCardSaid : Prop := Claim7.holds Tryd.pinned (.plain (OpenSpec.upto boxBackSpec)) boxBackUptoCard

/-- THE SECOND FORM's CARD OF 'sodalitylaw12.BoxBound'. -/
def boxBoundUptoCard : Claim7 := { stood := { row := boxBoundUptoRow, standIns := [], harness := (true, "6edbe8382da9223115eaac06878be63ed6f303af3323c5a2f71173d6f037747a"), looks := false }, kinds := [], alts := [], laidByText := true, laidKinds := [.data, .data, .data, .data, .data, .data], laidTests := true, laidLooks := .later }
def BoxBoundUptoCardSaid : Prop := Claim7.holds Tryd.pinned (.plain (OpenSpec.upto boxBoundSpec)) boxBoundUptoCard

/-- THE SECOND FORM's CARD OF 'sodalitylaw12.BoxStreams'. -/
def boxStreamsUptoCard : Claim7 := { stood := { row := boxStreamsUptoRow, standIns := [], harness := (true, "6edbe8382da9223115eaac06878be63ed6f303af3323c5a2f71173d6f037747a"), looks := false }, kinds := [], alts := [], laidByText := true, laidKinds := [.data, .data, .data, .data, .data, .data], laidTests := true, laidLooks := .later }
def BoxStreamsUptoCardSaid : Prop := Claim7.holds Tryd.pinned (.plain (OpenSpec.upto boxStreamsSpec)) boxStreamsUptoCard
end Rows
end Go.Proofs.YtfhibjpkbbbfpaaDoor
