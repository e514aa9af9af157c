/-
  DERIVED. GIVEN WITH THE SEED: THE CARDS: each row of YtophnoaneoeiaaaGreatDoorRows.lean that lists a variable, with what it lists TIED to the program's text (the seventh form; the later family's looks); each row that meets fmt, with fmt's text TOLD by the authors' own Lean function (tested against real Go, not proved from fmt's source: count such statements apart). THE CARD IS WHAT COUNTS. Prove the row's statement (the work); the ties are given (YtophnoaneoeiaaaGreatDoorTie.lean); close each card by the builder's one call (the guide's Derived/Test/ToyasCard.lean, 'card_holds'). Laid BY PROGRAM, IN A SANDBOX (cutbox-door.mjs). By AI agents, Wed Nov 11 2026. No macro, syntax, notation, axiom, sorry.
-/
import Derived.Test.YtophnoaneoeiaaaGreatDoorRows
import GoSem.ClaimSeven
namespace Go.Proofs.YtophnoaneoeiaaaGreatDoor
namespace Rows

/-- THE TIED CARD OF 'sodalitylaw14.RtreeTells'. -/
def rtreeTellsCard : Claim7 := { stood := { row := rtreeTellsRow, standIns := [], harness := (true, "f694706e5eca550a96bdc5afb6b4bdd87344f787b698c7377f904aa84b94f085"), looks := false }, kinds := [], alts := [], laidByText := true, laidKinds := [.data, .data, .data, .data, .data], laidTests := true, laidLooks := .later }
def RtreeTellsCardSaid : Prop := Claim7.holds Tryz.pinned (.plain (OpenSpec.ofChange rtreeTellsSpec)) rtreeTellsCard

/-- THE TIED CARD OF 'sodalitylaw14.RtreeChanges'. -/
def rtreeChangesCard : Claim7 := { stood := { row := rtreeChangesRow, standIns := [], harness := (true, "f694706e5eca550a96bdc5afb6b4bdd87344f787b698c7377f904aa84b94f085"), looks := false }, kinds := [], alts := [], laidByText := true, laidKinds := [.data, .data, .data, .data, .data], laidTests := true, laidLooks := .later }
def RtreeChangesCardSaid : Prop := Claim7.holds Tryz.pinned (.plain (OpenSpec.ofChange rtreeChangesSpec)) rtreeChangesCard

/-- THE TIED CARD OF 'sodalitylaw14.RtreeBack'. -/
def rtreeBackCard : Claim7 := { stood := { row := rtreeBackRow, standIns := [], harness := (true, "f694706e5eca550a96bdc5afb6b4bdd87344f787b698c7377f904aa84b94f085"), looks := false }, kinds := [], alts := [], laidByText := true, laidKinds := [.data, .data, .data, .data, .data], laidTests := true, laidLooks := .later }
def RtreeBackCardSaid : Prop := Claim7.holds Tryz.pinned (.plain (OpenSpec.ofChange rtreeBackSpec)) rtreeBackCard

/-- THE TIED CARD OF 'sodalitylaw14.RtreeAdded'. -/
def rtreeAddedCard : Claim7 := { stood := { row := rtreeAddedRow, standIns := [], harness := (true, "f694706e5eca550a96bdc5afb6b4bdd87344f787b698c7377f904aa84b94f085"), looks := false }, kinds := [], alts := [], laidByText := true, laidKinds := [.data, .data, .data, .data, .data], laidTests := true, laidLooks := .later }
def RtreeAddedCardSaid : Prop := Claim7.holds Tryz.pinned (.plain (OpenSpec.ofChange rtreeAddedSpec)) rtreeAddedCard

/-- THE TIED CARD OF 'sodalitylaw14.RtreeBound'. -/
def rtreeBoundCard : Claim7 := { stood := { row := rtreeBoundRow, standIns := [], harness := (true, "f694706e5eca550a96bdc5afb6b4bdd87344f787b698c7377f904aa84b94f085"), looks := false }, kinds := [], alts := [], laidByText := true, laidKinds := [.data, .data, .data, .data, .data], laidTests := true, laidLooks := .later }
def RtreeBoundCardSaid : Prop := Claim7.holds Tryz.pinned (.plain (OpenSpec.ofChange rtreeBoundSpec)) rtreeBoundCard

/-- THE TIED CARD OF 'sodalitylaw14.RtreeUnmerged'. -/
def rtreeUnmergedCard : Claim7 := { stood := { row := rtreeUnmergedRow, standIns := [], harness := (true, "f694706e5eca550a96bdc5afb6b4bdd87344f787b698c7377f904aa84b94f085"), looks := false }, kinds := [], alts := [], laidByText := true, laidKinds := [.data, .data, .data, .data, .data], laidTests := true, laidLooks := .later }
def RtreeUnmergedCardSaid : Prop := Claim7.holds Tryz.pinned (.plain (OpenSpec.ofChange rtreeUnmergedSpec)) rtreeUnmergedCard

/-- THE SECOND FORM's CARD OF 'sodalitylaw14.RtreeTells'. -/
def rtreeTellsUptoCard : Claim7 := { stood := { row := rtreeTellsUptoRow, standIns := [], harness := (true, "f694706e5eca550a96bdc5afb6b4bdd87344f787b698c7377f904aa84b94f085"), looks := false }, kinds := [], alts := [], laidByText := true, laidKinds := [.data, .data, .data, .data, .data], laidTests := true, laidLooks := .later }
def RtreeTellsUptoCardSaid : Prop := Claim7.holds Tryz.pinned (.plain (OpenSpec.upto rtreeTellsSpec)) rtreeTellsUptoCard

/-- THE SECOND FORM's CARD OF 'sodalitylaw14.RtreeChanges'. -/
def rtreeChangesUptoCard : Claim7 := { stood := { row := rtreeChangesUptoRow, standIns := [], harness := (true, "f694706e5eca550a96bdc5afb6b4bdd87344f787b698c7377f904aa84b94f085"), looks := false }, kinds := [], alts := [], laidByText := true, laidKinds := [.data, .data, .data, .data, .data], laidTests := true, laidLooks := .later }
def RtreeChangesUptoCardSaid : Prop := Claim7.holds Tryz.pinned (.plain (OpenSpec.upto rtreeChangesSpec)) rtreeChangesUptoCard

/-- THE SECOND FORM's CARD OF 'sodalitylaw14.RtreeBack'. -/
def rtreeBackUptoCard : Claim7 := { stood := { row := rtreeBackUptoRow, standIns := [], harness := (true, "f694706e5eca550a96bdc5afb6b4bdd87344f787b698c7377f904aa84b94f085"), looks := false }, kinds := [], alts := [], laidByText := true, laidKinds := [.data, .data, .data, .data, .data], laidTests := true, laidLooks := .later }
def RtreeBackUptoCardSaid : Prop := Claim7.holds Tryz.pinned (.plain (OpenSpec.upto rtreeBackSpec)) rtreeBackUptoCard

/-- THE SECOND FORM's CARD OF 'sodalitylaw14.RtreeAdded'. -/
def rtreeAddedUptoCard : Claim7 := { stood := { row := rtreeAddedUptoRow, standIns := [], harness := (true, "f694706e5eca550a96bdc5afb6b4bdd87344f787b698c7377f904aa84b94f085"), looks := false }, kinds := [], alts := [], laidByText := true, laidKinds := [.data, .data, .data, .data, .data], laidTests := true, laidLooks := .later }
def RtreeAddedUptoCardSaid : Prop := Claim7.holds Tryz.pinned (.plain (OpenSpec.upto rtreeAddedSpec)) rtreeAddedUptoCard

/-- THE SECOND FORM's CARD OF 'sodalitylaw14.RtreeBound'. -/
def rtreeBoundUptoCard : Claim7 := { stood := { row := rtreeBoundUptoRow, standIns := [], harness := (true, "f694706e5eca550a96bdc5afb6b4bdd87344f787b698c7377f904aa84b94f085"), looks := false }, kinds := [], alts := [], laidByText := true, laidKinds := [.data, .data, .data, .data, .data], laidTests := true, laidLooks := .later }
def RtreeBoundUptoCardSaid : Prop := Claim7.holds Tryz.pinned (.plain (OpenSpec.upto rtreeBoundSpec)) rtreeBoundUptoCard

/-- THE SECOND FORM's CARD OF 'sodalitylaw14.RtreeUnmerged'. -/
def rtreeUnmergedUptoCard : Claim7 := { stood := { row := rtreeUnmergedUptoRow, standIns := [], harness := (true, "f694706e5eca550a96bdc5afb6b4bdd87344f787b698c7377f904aa84b94f085"), looks := false }, kinds := [], alts := [], laidByText := true, laidKinds := [.data, .data, .data, .data, .data], laidTests := true, laidLooks := .later }
def RtreeUnmergedUptoCardSaid : Prop := Claim7.holds Tryz.pinned (.plain (OpenSpec.upto rtreeUnmergedSpec)) rtreeUnmergedUptoCard
end Rows
end Go.Proofs.YtophnoaneoeiaaaGreatDoor
