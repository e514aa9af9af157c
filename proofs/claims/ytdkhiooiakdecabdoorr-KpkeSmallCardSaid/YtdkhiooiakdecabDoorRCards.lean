/-
  DERIVED. GIVEN WITH THE SEED: THE CARDS: each row of YtdkhiooiakdecabDoorRRows.lean that lists a variable, with what it lists TIED to the program's text (the seventh form; the later family's looks); each row that meets fmt, with fmt's text TOLD by the authors' own Lean function (tested against real Go, not proved from fmt's source: count such statements apart). THE CARD IS WHAT COUNTS. Prove the row's statement (the work); the ties are given (YtdkhiooiakdecabDoorRTie.lean); close each card by the builder's one call (the guide's Derived/Test/ToyasCard.lean, 'card_holds'). Laid BY PROGRAM, IN A SANDBOX (cutbox-door.mjs). By AI agents, Wed Nov 11 2026. No macro, syntax, notation, axiom, sorry.
-/
import Derived.Test.YtdkhiooiakdecabDoorRRows
import GoSem.ClaimSeven
namespace Go.Proofs.YtdkhiooiakdecabDoorR
namespace Rows

/-- THE TIED CARD OF 'sodalitylaw05.KpkeSmall'. -/
def kpkeSmallCard : Claim7 := { stood := { row := kpkeSmallRow, standIns := [], harness := (true, "1fe16ff0112395a2f8cffb36ce8aa0d94f25cf202c27b4e5adedf86e437e9bdd"), looks := false }, kinds := [], alts := [], laidByText := true, laidKinds := [.data, .data, .data], laidTests := true, laidLooks := .later }
def KpkeSmallCardSaid : Prop := Claim7.holds Tryd.pinned (.plain (OpenSpec.ofChange kpkeSmallSpec)) kpkeSmallCard

/-- THE SECOND FORM's CARD OF 'sodalitylaw05.KpkeSmall'. -/
def kpkeSmallUptoCard : Claim7 := { stood := { row := kpkeSmallUptoRow, standIns := [], harness := (true, "1fe16ff0112395a2f8cffb36ce8aa0d94f25cf202c27b4e5adedf86e437e9bdd"), looks := false }, kinds := [], alts := [], laidByText := true, laidKinds := [.data, .data, .data], laidTests := true, laidLooks := .later }
def KpkeSmallUptoCardSaid : Prop := Claim7.holds Tryd.pinned (.plain (OpenSpec.upto kpkeSmallSpec)) kpkeSmallUptoCard
end Rows
end Go.Proofs.YtdkhiooiakdecabDoorR
