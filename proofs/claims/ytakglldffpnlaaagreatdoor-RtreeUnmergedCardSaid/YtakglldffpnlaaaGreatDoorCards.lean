/-
  DERIVED. GIVEN WITH THE SEED: THE CARDS: each row of YtakglldffpnlaaaGreatDoorRows.lean that lists a variable, with what it lists TIED to the program's text (the seventh form; the later family's looks); each row that meets fmt, with fmt's text TOLD by the authors' own Lean function (tested against real Go, not proved from fmt's source: count such statements apart). THE CARD IS WHAT COUNTS. Prove the row's statement (the work); the ties are given (YtakglldffpnlaaaGreatDoorTie.lean); close each card by the builder's one call (the guide's Derived/Test/ToyasCard.lean, 'card_holds'). Laid BY PROGRAM, IN A SANDBOX (cutbox-door.mjs). By AI agents, Wed Nov 11 2026. No macro, syntax, notation, axiom, sorry.
-/
import Derived.Test.YtakglldffpnlaaaGreatDoorRows
import GoSem.ClaimSeven
namespace Go.Proofs.YtakglldffpnlaaaGreatDoor
namespace Rows

/-- THE TIED CARD OF 'sodalitylaw14.RtreeChanges'. -/
def rtreeChangesCard : Claim7 := { stood := { row := rtreeChangesRow, standIns := [], harness := (true, "42329024a0045bfe5a85a4904280e268f8117b7971c8e21e8129e94b12e61380"), looks := false }, kinds := [], alts := [], laidByText := true, laidKinds := [.data, .data, .data, .data, .data], laidTests := true, laidLooks := .later }
def RtreeChangesCardSaid : Prop := Claim7.holds Tryz.pinned (.plain (OpenSpec.ofChange rtreeChangesSpec)) rtreeChangesCard

/-- THE TIED CARD OF 'sodalitylaw14.RtreeBack'. -/
def rtreeBackCard : Claim7 := { stood := { row := rtreeBackRow, standIns := [], harness := (true, "42329024a0045bfe5a85a4904280e268f8117b7971c8e21e8129e94b12e61380"), looks := false }, kinds := [], alts := [], laidByText := true, laidKinds := [.data, .data, .data, .data, .data], laidTests := true, laidLooks := .later }
def RtreeBackCardSaid : Prop := Claim7.holds Tryz.pinned (.plain (OpenSpec.ofChange rtreeBackSpec)) rtreeBackCard

/-- THE TIED CARD OF 'sodalitylaw14.RtreeUnmerged'. -/
def rtreeUnmergedCard : Claim7 := { stood := { row := rtreeUnmergedRow, standIns := [], harness := (true, "42329024a0045bfe5a85a4904280e268f8117b7971c8e21e8129e94b12e61380"), looks := false }, kinds := [], alts := [], laidByText := true, laidKinds := [.data, .data, .data, .data, .data], laidTests := true, laidLooks := .later }
def RtreeUnmergedCardSaid : Prop := Claim7.holds Tryz.pinned (.plain (OpenSpec.ofChange rtreeUnmergedSpec)) rtreeUnmergedCard

/-- THE SECOND FORM's CARD OF 'sodalitylaw14.RtreeChanges'. -/
def rtreeChangesUptoCard : Claim7 := { stood := { row := rtreeChangesUptoRow, standIns := [], harness := (true, "42329024a0045bfe5a85a4904280e268f8117b7971c8e21e8129e94b12e61380"), looks := false }, kinds := [], alts := [], laidByText := true, laidKinds := [.data, .data, .data, .data, .data], laidTests := true, laidLooks := .later }
def RtreeChangesUptoCardSaid : Prop := Claim7.holds Tryz.pinned (.plain (OpenSpec.upto rtreeChangesSpec)) rtreeChangesUptoCard

/-- THE SECOND FORM's CARD OF 'sodalitylaw14.RtreeBack'. -/
def rtreeBackUptoCard : Claim7 := { stood := { row := rtreeBackUptoRow, standIns := [], harness := (true, "42329024a0045bfe5a85a4904280e268f8117b7971c8e21e8129e94b12e61380"), looks := false }, kinds := [], alts := [], laidByText := true, laidKinds := [.data, .data, .data, .data, .data], laidTests := true, laidLooks := .later }
def RtreeBackUptoCardSaid : Prop := Claim7.holds Tryz.pinned (.plain (OpenSpec.upto rtreeBackSpec)) rtreeBackUptoCard

/-- THE SECOND FORM's CARD OF 'sodalitylaw14.RtreeUnmerged'. -/
def rtreeUnmergedUptoCard : Claim7 := { stood := { row := rtreeUnmergedUptoRow, standIns := [], harness := (true, "42329024a0045bfe5a85a4904280e268f8117b7971c8e21e8129e94b12e61380"), looks := false }, kinds := [], alts := [], laidByText := true, laidKinds := [.data, .data, .data, .data, .data], laidTests := true, laidLooks := .later }
def RtreeUnmergedUptoCardSaid : Prop := Claim7.holds Tryz.pinned (.plain (OpenSpec.upto rtreeUnmergedSpec)) rtreeUnmergedUptoCard
end Rows
end Go.Proofs.YtakglldffpnlaaaGreatDoor
