/-
  DERIVED. GIVEN WITH THE SEED: THE CARDS: each row of YtikafijdfgkgkaaDoorRows.lean that lists a variable, with what it lists TIED to the program's text (the seventh form; the later family's looks); each row that meets fmt, with fmt's text TOLD by the authors' own Lean function (tested against real Go, not proved from fmt's source: count such statements apart). THE CARD IS WHAT COUNTS. Prove the row's statement (the work); the ties are given (YtikafijdfgkgkaaDoorTie.lean); close each card by the builder's one call (the guide's Derived/Test/ToyasCard.lean, 'card_holds'). Laid BY PROGRAM, IN A SANDBOX (cutbox-door.mjs). By AI agents, Wed Nov 11 2026. No macro, syntax, notation, axiom, sorry.
-/
import Derived.Test.YtikafijdfgkgkaaDoorRows
import GoSem.ClaimSeven
namespace Go.Proofs.YtikafijdfgkgkaaDoor
namespace Rows

/-- THE TIED CARD OF 'sodalitylaw16.SchedKeys'. -/
def schedKeysCard : Claim7 := { stood := { row := schedKeysRow, standIns := [], harness := (true, "3a449ef76c068e13ef117ddf34225928544114984651af7680177c755906150b"), looks := false }, kinds := [], alts := [], laidByText := true, laidKinds := [.data, .data, .data], laidTests := true, laidLooks := .later }
def SchedKeysCardSaid : Prop := Claim7.holds Tryd.pinned (.plain (OpenSpec.ofChange schedKeysSpec)) schedKeysCard

/-- THE TIED CARD OF 'sodalitylaw16.SchedSums'. -/
def schedSumsCard : Claim7 := { stood := { row := schedSumsRow, standIns := [], harness := (true, "3a449ef76c068e13ef117ddf34225928544114984651af7680177c755906150b"), looks := false }, kinds := [], alts := [], laidByText := true, laidKinds := [.data, .data, .data], laidTests := true, laidLooks := .later }
def SchedSumsCardSaid : Prop := Claim7.holds Tryd.pinned (.plain (OpenSpec.ofChange schedSumsSpec)) schedSumsCard

/-- THE TIED CARD OF 'sodalitylaw16.SchedSame'. -/
def schedSameCard : Claim7 := { stood := { row := schedSameRow, standIns := [], harness := (true, "3a449ef76c068e13ef117ddf34225928544114984651af7680177c755906150b"), looks := false }, kinds := [], alts := [], laidByText := true, laidKinds := [.data, .data, .data], laidTests := true, laidLooks := .later }
def SchedSameCardSaid : Prop := Claim7.holds Tryd.pinned (.plain (OpenSpec.ofChange schedSameSpec)) schedSameCard

/-- THE TIED CARD OF 'sodalitylaw16.SchedChain'. -/
def schedChainCard : Claim7 := { stood := { row := schedChainRow, standIns := [], harness := (true, "3a449ef76c068e13ef117ddf34225928544114984651af7680177c755906150b"), looks := false }, kinds := [], alts := [], laidByText := true, laidKinds := [.data, .data, .data], laidTests := true, laidLooks := .later }
def SchedChainCardSaid : Prop := Claim7.holds Tryd.pinned (.plain (OpenSpec.ofChange schedChainSpec)) schedChainCard

/-- THE TIED CARD OF 'sodalitylaw16.SchedLong'. -/
def schedLongCard : Claim7 := { stood := { row := schedLongRow, standIns := [], harness := (true, "3a449ef76c068e13ef117ddf34225928544114984651af7680177c755906150b"), looks := false }, kinds := [], alts := [], laidByText := true, laidKinds := [.data, .data, .data], laidTests := true, laidLooks := .later }
def SchedLongCardSaid : Prop := Claim7.holds Tryd.pinned (.plain (OpenSpec.ofChange schedLongSpec)) schedLongCard

/-- THE SECOND FORM's CARD OF 'sodalitylaw16.SchedKeys'. -/
def schedKeysUptoCard : Claim7 := { stood := { row := schedKeysUptoRow, standIns := [], harness := (true, "3a449ef76c068e13ef117ddf34225928544114984651af7680177c755906150b"), looks := false }, kinds := [], alts := [], laidByText := true, laidKinds := [.data, .data, .data], laidTests := true, laidLooks := .later }
def SchedKeysUptoCardSaid : Prop := Claim7.holds Tryd.pinned (.plain (OpenSpec.upto schedKeysSpec)) schedKeysUptoCard

/-- THE SECOND FORM's CARD OF 'sodalitylaw16.SchedSums'. -/
def schedSumsUptoCard : Claim7 := { stood := { row := schedSumsUptoRow, standIns := [], harness := (true, "3a449ef76c068e13ef117ddf34225928544114984651af7680177c755906150b"), looks := false }, kinds := [], alts := [], laidByText := true, laidKinds := [.data, .data, .data], laidTests := true, laidLooks := .later }
def SchedSumsUptoCardSaid : Prop := Claim7.holds Tryd.pinned (.plain (OpenSpec.upto schedSumsSpec)) schedSumsUptoCard

/-- THE SECOND FORM's CARD OF 'sodalitylaw16.SchedSame'. -/
def schedSameUptoCard : Claim7 := { stood := { row := schedSameUptoRow, standIns := [], harness := (true, "3a449ef76c068e13ef117ddf34225928544114984651af7680177c755906150b"), looks := false }, kinds := [], alts := [], laidByText := true, laidKinds := [.data, .data, .data], laidTests := true, laidLooks := .later }
def SchedSameUptoCardSaid : Prop := Claim7.holds Tryd.pinned (.plain (OpenSpec.upto schedSameSpec)) schedSameUptoCard

/-- THE SECOND FORM's CARD OF 'sodalitylaw16.SchedChain'. -/
def schedChainUptoCard : Claim7 := { stood := { row := schedChainUptoRow, standIns := [], harness := (true, "3a449ef76c068e13ef117ddf34225928544114984651af7680177c755906150b"), looks := false }, kinds := [], alts := [], laidByText := true, laidKinds := [.data, .data, .data], laidTests := true, laidLooks := .later }
def SchedChainUptoCardSaid : Prop := Claim7.holds Tryd.pinned (.plain (OpenSpec.upto schedChainSpec)) schedChainUptoCard

/-- THE SECOND FORM's CARD OF 'sodalitylaw16.SchedLong'. -/
def schedLongUptoCard : Claim7 := { stood := { row := schedLongUptoRow, standIns := [], harness := (true, "3a449ef76c068e13ef117ddf34225928544114984651af7680177c755906150b"), looks := false }, kinds := [], alts := [], laidByText := true, laidKinds := [.data, .data, .data], laidTests := true, laidLooks := .later }
def SchedLongUptoCardSaid : Prop := Claim7.holds Tryd.pinned (.plain (OpenSpec.upto schedLongSpec)) schedLongUptoCard
end Rows
end Go.Proofs.YtikafijdfgkgkaaDoor
