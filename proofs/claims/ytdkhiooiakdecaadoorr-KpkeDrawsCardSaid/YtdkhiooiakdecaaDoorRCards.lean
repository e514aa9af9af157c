/-
  DERIVED. GIVEN WITH THE SEED: THE CARDS: each row of YtdkhiooiakdecaaDoorRRows.lean that lists a variable, with what it lists TIED to the program's text (the seventh form; the later family's looks); each row that meets fmt, with fmt's text TOLD by the authors' own Lean function (tested against real Go, not proved from fmt's source: count such statements apart). THE CARD IS WHAT COUNTS. Prove the row's statement (the work); the ties are given (YtdkhiooiakdecaaDoorRTie.lean); close each card by the builder's one call (the guide's Derived/Test/ToyasCard.lean, 'card_holds'). Laid BY PROGRAM, IN A SANDBOX (cutbox-door.mjs). By AI agents, Wed Nov 11 2026. No macro, syntax, notation, axiom, sorry.
-/
import Derived.Test.YtdkhiooiakdecaaDoorRRows
import GoSem.ClaimSeven
namespace Go.Proofs.YtdkhiooiakdecaaDoorR
namespace Rows

/-- THE TIED CARD OF 'sodalitylaw05.KpkeDraws'. -/
def kpkeDrawsCard : Claim7 := { stood := { row := kpkeDrawsRow, standIns := [], harness := (true, "5ab54feab4f37314955e15f50d22b9d62310bd0c1c9fd0ebb44855cfb52da10e"), looks := false }, kinds := [], alts := [], laidByText := true, laidKinds := [.data, .data, .data], laidTests := true, laidLooks := .later }
def KpkeDrawsCardSaid : Prop := Claim7.holds Tryd.pinned (.plain (OpenSpec.ofChange kpkeDrawsSpec)) kpkeDrawsCard

/-- THE TIED CARD OF 'sodalitylaw05.KpkeCodes'. -/
def kpkeCodesCard : Claim7 := { stood := { row := kpkeCodesRow, standIns := [], harness := (true, "5ab54feab4f37314955e15f50d22b9d62310bd0c1c9fd0ebb44855cfb52da10e"), looks := false }, kinds := [], alts := [], laidByText := true, laidKinds := [.data, .data, .data], laidTests := true, laidLooks := .later }
def KpkeCodesCardSaid : Prop := Claim7.holds Tryd.pinned (.plain (OpenSpec.ofChange kpkeCodesSpec)) kpkeCodesCard

/-- THE TIED CARD OF 'sodalitylaw05.KpkeBack'. -/
def kpkeBackCard : Claim7 := { stood := { row := kpkeBackRow, standIns := [], harness := (true, "5ab54feab4f37314955e15f50d22b9d62310bd0c1c9fd0ebb44855cfb52da10e"), looks := false }, kinds := [], alts := [], laidByText := true, laidKinds := [.data, .data, .data], laidTests := true, laidLooks := .later }
def KpkeBackCardSaid : Prop := Claim7.holds Tryd.pinned (.plain (OpenSpec.ofChange kpkeBackSpec)) kpkeBackCard

/-- THE TIED CARD OF 'sodalitylaw05.KpkeNear'. -/
def kpkeNearCard : Claim7 := { stood := { row := kpkeNearRow, standIns := [], harness := (true, "5ab54feab4f37314955e15f50d22b9d62310bd0c1c9fd0ebb44855cfb52da10e"), looks := false }, kinds := [], alts := [], laidByText := true, laidKinds := [.data, .data, .data], laidTests := true, laidLooks := .later }
def KpkeNearCardSaid : Prop := Claim7.holds Tryd.pinned (.plain (OpenSpec.ofChange kpkeNearSpec)) kpkeNearCard

/-- THE SECOND FORM's CARD OF 'sodalitylaw05.KpkeDraws'. -/
def kpkeDrawsUptoCard : Claim7 := { stood := { row := kpkeDrawsUptoRow, standIns := [], harness := (true, "5ab54feab4f37314955e15f50d22b9d62310bd0c1c9fd0ebb44855cfb52da10e"), looks := false }, kinds := [], alts := [], laidByText := true, laidKinds := [.data, .data, .data], laidTests := true, laidLooks := .later }
def KpkeDrawsUptoCardSaid : Prop := Claim7.holds Tryd.pinned (.plain (OpenSpec.upto kpkeDrawsSpec)) kpkeDrawsUptoCard

/-- THE SECOND FORM's CARD OF 'sodalitylaw05.KpkeCodes'. -/
def kpkeCodesUptoCard : Claim7 := { stood := { row := kpkeCodesUptoRow, standIns := [], harness := (true, "5ab54feab4f37314955e15f50d22b9d62310bd0c1c9fd0ebb44855cfb52da10e"), looks := false }, kinds := [], alts := [], laidByText := true, laidKinds := [.data, .data, .data], laidTests := true, laidLooks := .later }
def KpkeCodesUptoCardSaid : Prop := Claim7.holds Tryd.pinned (.plain (OpenSpec.upto kpkeCodesSpec)) kpkeCodesUptoCard

/-- THE SECOND FORM's CARD OF 'sodalitylaw05.KpkeBack'. -/
def kpkeBackUptoCard : Claim7 := { stood := { row := kpkeBackUptoRow, standIns := [], harness := (true, "5ab54feab4f37314955e15f50d22b9d62310bd0c1c9fd0ebb44855cfb52da10e"), looks := false }, kinds := [], alts := [], laidByText := true, laidKinds := [.data, .data, .data], laidTests := true, laidLooks := .later }
def KpkeBackUptoCardSaid : Prop := Claim7.holds Tryd.pinned (.plain (OpenSpec.upto kpkeBackSpec)) kpkeBackUptoCard

/-- THE SECOND FORM's CARD OF 'sodalitylaw05.KpkeNear'. -/
def kpkeNearUptoCard : Claim7 := { stood := { row := kpkeNearUptoRow, standIns := [], harness := (true, "5ab54feab4f37314955e15f50d22b9d62310bd0c1c9fd0ebb44855cfb52da10e"), looks := false }, kinds := [], alts := [], laidByText := true, laidKinds := [.data, .data, .data], laidTests := true, laidLooks := .later }
def KpkeNearUptoCardSaid : Prop := Claim7.holds Tryd.pinned (.plain (OpenSpec.upto kpkeNearSpec)) kpkeNearUptoCard
end Rows
end Go.Proofs.YtdkhiooiakdecaaDoorR
