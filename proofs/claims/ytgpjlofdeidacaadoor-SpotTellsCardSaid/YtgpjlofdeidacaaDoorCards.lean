/-
  DERIVED. GIVEN WITH THE SEED: THE CARDS: each row of YtgpjlofdeidacaaDoorRows.lean that lists a variable, with what it lists TIED to the program's text (the seventh form; the later family's looks); each row that meets fmt, with fmt's text TOLD by the authors' own Lean function (tested against real Go, not proved from fmt's source: count such statements apart). THE CARD IS WHAT COUNTS. Prove the row's statement (the work); the ties are given (YtgpjlofdeidacaaDoorTie.lean); close each card by the builder's one call (the guide's Derived/Test/ToyasCard.lean, 'card_holds'). Laid BY PROGRAM, IN A SANDBOX (cutbox-door.mjs). By AI agents, Wed Nov 11 2026. No macro, syntax, notation, axiom, sorry.
-/
import Derived.Test.YtgpjlofdeidacaaDoorRows
import GoSem.ClaimSeven
namespace Go.Proofs.YtgpjlofdeidacaaDoor
namespace Rows

/-- THE TIED CARD OF 'sodalitylaw13.SpotTells'. -/
def spotTellsCard : Claim7 := { stood := { row := spotTellsRow, standIns := [], harness := (true, "e2cae1cf13f6f8a13d9c31063cce53d6c66208454f4f26dfd2fa6fdca76a2b47"), looks := false }, kinds := [], alts := [], laidByText := true, laidKinds := [.data, .data], laidTests := true, laidLooks := .later }
def SpotTellsCardSaid : Prop := Claim7.holds Tryd.pinned (.plain (OpenSpec.ofChange spotTellsSpec)) spotTellsCard

/-- THE TIED CARD OF 'sodalitylaw13.SpotNumbers'. -/
def spotNumbersCard : Claim7 := { stood := { row := spotNumbersRow, standIns := [], harness := (true, "e2cae1cf13f6f8a13d9c31063cce53d6c66208454f4f26dfd2fa6fdca76a2b47"), looks := false }, kinds := [], alts := [], laidByText := true, laidKinds := [.data, .data], laidTests := true, laidLooks := .later }
def SpotNumbersCardSaid : Prop := Claim7.holds Tryd.pinned (.plain (OpenSpec.ofChange spotNumbersSpec)) spotNumbersCard

/-- THE TIED CARD OF 'sodalitylaw13.SpotBelow'. -/
def spotBelowCard : Claim7 := { stood := { row := spotBelowRow, standIns := [], harness := (true, "e2cae1cf13f6f8a13d9c31063cce53d6c66208454f4f26dfd2fa6fdca76a2b47"), looks := false }, kinds := [], alts := [], laidByText := true, laidKinds := [.data, .data], laidTests := true, laidLooks := .later }
def SpotBelowCardSaid : Prop := Claim7.holds Tryd.pinned (.plain (OpenSpec.ofChange spotBelowSpec)) spotBelowCard

/-- THE TIED CARD OF 'sodalitylaw13.SpotMeets'. -/
def spotMeetsCard : Claim7 := { stood := { row := spotMeetsRow, standIns := [], harness := (true, "e2cae1cf13f6f8a13d9c31063cce53d6c66208454f4f26dfd2fa6fdca76a2b47"), looks := false }, kinds := [], alts := [], laidByText := true, laidKinds := [.data, .data], laidTests := true, laidLooks := .later }
def SpotMeetsCardSaid : Prop := Claim7.holds Tryd.pinned (.plain (OpenSpec.ofChange spotMeetsSpec)) spotMeetsCard

/-- THE TIED CARD OF 'sodalitylaw13.SpotPairs'. -/
def spotPairsCard : Claim7 := { stood := { row := spotPairsRow, standIns := [], harness := (true, "e2cae1cf13f6f8a13d9c31063cce53d6c66208454f4f26dfd2fa6fdca76a2b47"), looks := false }, kinds := [], alts := [], laidByText := true, laidKinds := [.data, .data], laidTests := true, laidLooks := .later }
def SpotPairsCardSaid : Prop := Claim7.holds Tryd.pinned (.plain (OpenSpec.ofChange spotPairsSpec)) spotPairsCard

/-- THE TIED CARD OF 'sodalitylaw13.SpotPaths'. -/
def spotPathsCard : Claim7 := { stood := { row := spotPathsRow, standIns := [], harness := (true, "e2cae1cf13f6f8a13d9c31063cce53d6c66208454f4f26dfd2fa6fdca76a2b47"), looks := false }, kinds := [], alts := [], laidByText := true, laidKinds := [.data, .data], laidTests := true, laidLooks := .later }
def SpotPathsCardSaid : Prop := Claim7.holds Tryd.pinned (.plain (OpenSpec.ofChange spotPathsSpec)) spotPathsCard

/-- THE SECOND FORM's CARD OF 'sodalitylaw13.SpotTells'. -/
def spotTellsUptoCard : Claim7 := { stood := { row := spotTellsUptoRow, standIns := [], harness := (true, "e2cae1cf13f6f8a13d9c31063cce53d6c66208454f4f26dfd2fa6fdca76a2b47"), looks := false }, kinds := [], alts := [], laidByText := true, laidKinds := [.data, .data], laidTests := true, laidLooks := .later }
def SpotTellsUptoCardSaid : Prop := Claim7.holds Tryd.pinned (.plain (OpenSpec.upto spotTellsSpec)) spotTellsUptoCard

/-- THE SECOND FORM's CARD OF 'sodalitylaw13.SpotNumbers'. -/
def spotNumbersUptoCard : Claim7 := { stood := { row := spotNumbersUptoRow, standIns := [], harness := (true, "e2cae1cf13f6f8a13d9c31063cce53d6c66208454f4f26dfd2fa6fdca76a2b47"), looks := false }, kinds := [], alts := [], laidByText := true, laidKinds := [.data, .data], laidTests := true, laidLooks := .later }
def SpotNumbersUptoCardSaid : Prop := Claim7.holds Tryd.pinned (.plain (OpenSpec.upto spotNumbersSpec)) spotNumbersUptoCard

/-- THE SECOND FORM's CARD OF 'sodalitylaw13.SpotBelow'. -/
def spotBelowUptoCard : Claim7 := { stood := { row := spotBelowUptoRow, standIns := [], harness := (true, "e2cae1cf13f6f8a13d9c31063cce53d6c66208454f4f26dfd2fa6fdca76a2b47"), looks := false }, kinds := [], alts := [], laidByText := true, laidKinds := [.data, .data], laidTests := true, laidLooks := .later }
def SpotBelowUptoCardSaid : Prop := Claim7.holds Tryd.pinned (.plain (OpenSpec.upto spotBelowSpec)) spotBelowUptoCard

/-- THE SECOND FORM's CARD OF 'sodalitylaw13.SpotMeets'. -/
def spotMeetsUptoCard : Claim7 := { stood := { row := spotMeetsUptoRow, standIns := [], harness := (true, "e2cae1cf13f6f8a13d9c31063cce53d6c66208454f4f26dfd2fa6fdca76a2b47"), looks := false }, kinds := [], alts := [], laidByText := true, laidKinds := [.data, .data], laidTests := true, laidLooks := .later }
def SpotMeetsUptoCardSaid : Prop := Claim7.holds Tryd.pinned (.plain (OpenSpec.upto spotMeetsSpec)) spotMeetsUptoCard

/-- THE SECOND FORM's CARD OF 'sodalitylaw13.SpotPairs'. -/
def spotPairsUptoCard : Claim7 := { stood := { row := spotPairsUptoRow, standIns := [], harness := (true, "e2cae1cf13f6f8a13d9c31063cce53d6c66208454f4f26dfd2fa6fdca76a2b47"), looks := false }, kinds := [], alts := [], laidByText := true, laidKinds := [.data, .data], laidTests := true, laidLooks := .later }
def SpotPairsUptoCardSaid : Prop := Claim7.holds Tryd.pinned (.plain (OpenSpec.upto spotPairsSpec)) spotPairsUptoCard

/-- THE SECOND FORM's CARD OF 'sodalitylaw13.SpotPaths'. -/
def spotPathsUptoCard : Claim7 := { stood := { row := spotPathsUptoRow, standIns := [], harness := (true, "e2cae1cf13f6f8a13d9c31063cce53d6c66208454f4f26dfd2fa6fdca76a2b47"), looks := false }, kinds := [], alts := [], laidByText := true, laidKinds := [.data, .data], laidTests := true, laidLooks := .later }
def SpotPathsUptoCardSaid : Prop := Claim7.holds Tryd.pinned (.plain (OpenSpec.upto spotPathsSpec)) spotPathsUptoCard
end Rows
end Go.Proofs.YtgpjlofdeidacaaDoor
