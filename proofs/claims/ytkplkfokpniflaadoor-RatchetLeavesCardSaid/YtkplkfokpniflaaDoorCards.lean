/-
  DERIVED. GIVEN WITH THE SEED: THE CARDS: each row of YtkplkfokpniflaaDoorRows.lean that lists a variable, with what it lists TIED to the program's text (the seventh form; the later family's looks); each row that meets fmt, with fmt's text TOLD by the authors' own Lean function (tested against real Go, not proved from fmt's source: count such statements apart). THE CARD IS WHAT COUNTS. Prove the row's statement (the work); the ties are given (YtkplkfokpniflaaDoorTie.lean); close each card by the builder's one call (the guide's Derived/Test/ToyasCard.lean, 'card_holds'). Laid BY PROGRAM, IN A SANDBOX (cutbox-door.mjs). By AI agents, Wed Nov 11 2026. No macro, syntax, notation, axiom, sorry.
-/
import Derived.Test.YtkplkfokpniflaaDoorRows
import GoSem.ClaimSeven
namespace Go.Proofs.YtkplkfokpniflaaDoor
namespace Rows

/-- THE TIED CARD OF 'sodalitylaw17.RatchetTells'. -/
def ratchetTellsCard : Claim7 := { stood := { row := ratchetTellsRow, standIns := [], harness := (true, "46d08eb83a17ac71f1a15e9f68f74e985dec57f5c3d9b8be1c75e8296b535e20"), looks := false }, kinds := [], alts := [], laidByText := true, laidKinds := [.data, .data], laidTests := true, laidLooks := .later }
def RatchetTellsCardSaid : Prop := Claim7.holds Tryd.pinned (.plain (OpenSpec.ofChange ratchetTellsSpec)) ratchetTellsCard

/-- THE TIED CARD OF 'sodalitylaw17.RatchetOnce'. -/
def ratchetOnceCard : Claim7 := { stood := { row := ratchetOnceRow, standIns := [], harness := (true, "46d08eb83a17ac71f1a15e9f68f74e985dec57f5c3d9b8be1c75e8296b535e20"), looks := false }, kinds := [], alts := [], laidByText := true, laidKinds := [.data, .data], laidTests := true, laidLooks := .later }
def RatchetOnceCardSaid : Prop := Claim7.holds Tryd.pinned (.plain (OpenSpec.ofChange ratchetOnceSpec)) ratchetOnceCard

/-- THE TIED CARD OF 'sodalitylaw17.RatchetOrder'. -/
def ratchetOrderCard : Claim7 := { stood := { row := ratchetOrderRow, standIns := [], harness := (true, "46d08eb83a17ac71f1a15e9f68f74e985dec57f5c3d9b8be1c75e8296b535e20"), looks := false }, kinds := [], alts := [], laidByText := true, laidKinds := [.data, .data], laidTests := true, laidLooks := .later }
def RatchetOrderCardSaid : Prop := Claim7.holds Tryd.pinned (.plain (OpenSpec.ofChange ratchetOrderSpec)) ratchetOrderCard

/-- THE TIED CARD OF 'sodalitylaw17.RatchetWindow'. -/
def ratchetWindowCard : Claim7 := { stood := { row := ratchetWindowRow, standIns := [], harness := (true, "46d08eb83a17ac71f1a15e9f68f74e985dec57f5c3d9b8be1c75e8296b535e20"), looks := false }, kinds := [], alts := [], laidByText := true, laidKinds := [.data, .data], laidTests := true, laidLooks := .later }
def RatchetWindowCardSaid : Prop := Claim7.holds Tryd.pinned (.plain (OpenSpec.ofChange ratchetWindowSpec)) ratchetWindowCard

/-- THE TIED CARD OF 'sodalitylaw17.RatchetLeaves'. -/
def ratchetLeavesCard : Claim7 := { stood := { row := ratchetLeavesRow, standIns := [], harness := (true, "46d08eb83a17ac71f1a15e9f68f74e985dec57f5c3d9b8be1c75e8296b535e20"), looks := false }, kinds := [], alts := [], laidByText := true, laidKinds := [.data, .data], laidTests := true, laidLooks := .later }
def RatchetLeavesCardSaid : Prop := Claim7.holds Tryd.pinned (.plain (OpenSpec.ofChange ratchetLeavesSpec)) ratchetLeavesCard

/-- THE SECOND FORM's CARD OF 'sodalitylaw17.RatchetTells'. -/
def ratchetTellsUptoCard : Claim7 := { stood := { row := ratchetTellsUptoRow, standIns := [], harness := (true, "46d08eb83a17ac71f1a15e9f68f74e985dec57f5c3d9b8be1c75e8296b535e20"), looks := false }, kinds := [], alts := [], laidByText := true, laidKinds := [.data, .data], laidTests := true, laidLooks := .later }
def RatchetTellsUptoCardSaid : Prop := Claim7.holds Tryd.pinned (.plain (OpenSpec.upto ratchetTellsSpec)) ratchetTellsUptoCard

/-- THE SECOND FORM's CARD OF 'sodalitylaw17.RatchetOnce'. -/
def ratchetOnceUptoCard : Claim7 := { stood := { row := ratchetOnceUptoRow, standIns := [], harness := (true, "46d08eb83a17ac71f1a15e9f68f74e985dec57f5c3d9b8be1c75e8296b535e20"), looks := false }, kinds := [], alts := [], laidByText := true, laidKinds := [.data, .data], laidTests := true, laidLooks := .later }
def RatchetOnceUptoCardSaid : Prop := Claim7.holds Tryd.pinned (.plain (OpenSpec.upto ratchetOnceSpec)) ratchetOnceUptoCard

/-- THE SECOND FORM's CARD OF 'sodalitylaw17.RatchetOrder'. -/
def ratchetOrderUptoCard : Claim7 := { stood := { row := ratchetOrderUptoRow, standIns := [], harness := (true, "46d08eb83a17ac71f1a15e9f68f74e985dec57f5c3d9b8be1c75e8296b535e20"), looks := false }, kinds := [], alts := [], laidByText := true, laidKinds := [.data, .data], laidTests := true, laidLooks := .later }
def RatchetOrderUptoCardSaid : Prop := Claim7.holds Tryd.pinned (.plain (OpenSpec.upto ratchetOrderSpec)) ratchetOrderUptoCard

/-- THE SECOND FORM's CARD OF 'sodalitylaw17.RatchetWindow'. -/
def ratchetWindowUptoCard : Claim7 := { stood := { row := ratchetWindowUptoRow, standIns := [], harness := (true, "46d08eb83a17ac71f1a15e9f68f74e985dec57f5c3d9b8be1c75e8296b535e20"), looks := false }, kinds := [], alts := [], laidByText := true, laidKinds := [.data, .data], laidTests := true, laidLooks := .later }
def RatchetWindowUptoCardSaid : Prop := Claim7.holds Tryd.pinned (.plain (OpenSpec.upto ratchetWindowSpec)) ratchetWindowUptoCard

/-- THE SECOND FORM's CARD OF 'sodalitylaw17.RatchetLeaves'. -/
def ratchetLeavesUptoCard : Claim7 := { stood := { row := ratchetLeavesUptoRow, standIns := [], harness := (true, "46d08eb83a17ac71f1a15e9f68f74e985dec57f5c3d9b8be1c75e8296b535e20"), looks := false }, kinds := [], alts := [], laidByText := true, laidKinds := [.data, .data], laidTests := true, laidLooks := .later }
def RatchetLeavesUptoCardSaid : Prop := Claim7.holds Tryd.pinned (.plain (OpenSpec.upto ratchetLeavesSpec)) ratchetLeavesUptoCard
end Rows
end Go.Proofs.YtkplkfokpniflaaDoor
