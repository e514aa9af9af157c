/-
  NARROWER THAN 'FOR EVERY INPUT', by the rows' own cells (each row's printed sentence says how): WireNumbers: laid · WireTexts: laid · WireBack: laid · WireKept: laid · WireApart: laid · WireSizes: laid · WireRow: laid.
  DERIVED. THE GIVEN ROWS OF THIS SEAT. 7 by the template 'for every input the law returns true; each argument reads behind the call as it read before'; 0 by the template 'total and deterministic' (their statements: YthjoafldndgahaaDoorTotals.lean).
  GIVEN WITH THE SEED: the statements are not yours to turn. If you find one false, say at which input.
  Laid BY PROGRAM, IN A SANDBOX (cutbox-rows.mjs): the forced cells as the released guide's own fill.sh prints them over the translation c6b2e813ccee98f4… (all of the seat's roots in one cut). By AI agents, Wed Nov 11 2026. No macro, syntax, notation, axiom, sorry.
-/
import Derived.Test.YthjoafldndgahaaDoorChecked
import GoSem.Claim
import GoSem.ClaimJoined
import GoSem.ClaimMapViews
import Derived.JoinedTies
import Derived.KernelRfl
namespace Go.Proofs.YthjoafldndgahaaDoor
/- THE CELL 'sum', in the pinned program and in every row, IS THE sha256 OF THE DUMP (.gsa) THAT YthjoafldndgahaaDoorProg.lean LOADS. Nothing in Lean hashes anything: it is a label: what it is worth is what the hold of that sum in a sandbox is worth. -/
noncomputable def Tryd.pinned : Pinned := { name := "ythjoafldndgahaadoor", sum := "c6b2e813ccee98f456f1ab36ec5b368b0307c830cfb0b098263ecf95165038d5", checked := Tryd.checked }
namespace Rows
def none {H : Type} : Left H := { results := [], args := [] }

/- WHAT THE LISTED PACKAGE-LEVEL VARIABLES READ AS WHEN THE CALL BEGINS. Each datum BY PROGRAM (the guide's laid-datum.mjs) off the statement by which the dump's own 'gosem.cut.vars' lays the variable. In a bare row this is a premise. The card (YthjoafldndgahaaDoorCards.lean) ties it to the program's text. -/
def laid_sodality_wire_classes {H : Type} : DataW H := .agg [.agg [.lit (.int .i64 1), .lit (.int .u8 64), .lit (.int .i64 0), .lit (.int .i64 64)], .agg [.lit (.int .i64 2), .lit (.int .u8 128), .lit (.int .i64 16384), .lit (.int .i64 16384)], .agg [.lit (.int .i64 4), .lit (.int .u8 192), .lit (.int .i64 2147483648), .lit (.int .i64 1073741824)]]

/-- 'sodalitylaw11.WireNumbers': WHATEVER THE INPUT: true; the input reads as it did. -/
def wireNumbersSpec : ChangeSpec := { name := "wireNumbers", fn := fun _ => fun
  | [d1, d2, d3, d4] => { results := [.lit (.bool true)], args := [d1, d2, d3, d4] }
  | _ => none }
def wireNumbersRow : OpenClaim := { program := "ythjoafldndgahaadoor", sum := "c6b2e813ccee98f456f1ab36ec5b368b0307c830cfb0b098263ecf95165038d5", func := "sodality/sodalitylaw11.WireNumbers", spec := "wireNumbers", named := ["sodality/wire.classes"], apart := false, laid := [("sodality/wire.classes", laid_sodality_wire_classes)] }
def WireNumbersSaid : Prop := wireNumbersRow.holds Tryd.pinned (OpenSpec.ofChange wireNumbersSpec)

/-- ITS FALSE NEIGHBOUR: 'it returns false'. Refute it at one input. -/
def wireNumbersWrong : ChangeSpec := { name := "wireNumbers", fn := fun _ => fun
  | [d1, d2, d3, d4] => { results := [.lit (.bool false)], args := [d1, d2, d3, d4] }
  | _ => none }
def WireNumbersWrongFalsely : Prop := wireNumbersRow.holds Tryd.pinned (OpenSpec.ofChange wireNumbersWrong)

/-- 'sodalitylaw11.WireTexts': WHATEVER THE INPUT: true; the input reads as it did. -/
def wireTextsSpec : ChangeSpec := { name := "wireTexts", fn := fun _ => fun
  | [d1, d2, d3, d4] => { results := [.lit (.bool true)], args := [d1, d2, d3, d4] }
  | _ => none }
def wireTextsRow : OpenClaim := { program := "ythjoafldndgahaadoor", sum := "c6b2e813ccee98f456f1ab36ec5b368b0307c830cfb0b098263ecf95165038d5", func := "sodality/sodalitylaw11.WireTexts", spec := "wireTexts", named := ["sodality/wire.classes"], apart := false, laid := [("sodality/wire.classes", laid_sodality_wire_classes)] }
def WireTextsSaid : Prop := wireTextsRow.holds Tryd.pinned (OpenSpec.ofChange wireTextsSpec)

/-- ITS FALSE NEIGHBOUR: 'it returns false'. Refute it at one input. -/
def wireTextsWrong : ChangeSpec := { name := "wireTexts", fn := fun _ => fun
  | [d1, d2, d3, d4] => { results := [.lit (.bool false)], args := [d1, d2, d3, d4] }
  | _ => none }
def WireTextsWrongFalsely : Prop := wireTextsRow.holds Tryd.pinned (OpenSpec.ofChange wireTextsWrong)

/-- 'sodalitylaw11.WireBack': WHATEVER THE INPUT: true; the input reads as it did. -/
def wireBackSpec : ChangeSpec := { name := "wireBack", fn := fun _ => fun
  | [d1, d2, d3, d4, d5] => { results := [.lit (.bool true)], args := [d1, d2, d3, d4, d5] }
  | _ => none }
def wireBackRow : OpenClaim := { program := "ythjoafldndgahaadoor", sum := "c6b2e813ccee98f456f1ab36ec5b368b0307c830cfb0b098263ecf95165038d5", func := "sodality/sodalitylaw11.WireBack", spec := "wireBack", named := ["sodality/wire.classes"], apart := false, laid := [("sodality/wire.classes", laid_sodality_wire_classes)] }
def WireBackSaid : Prop := wireBackRow.holds Tryd.pinned (OpenSpec.ofChange wireBackSpec)

/-- ITS FALSE NEIGHBOUR: 'it returns false'. Refute it at one input. -/
def wireBackWrong : ChangeSpec := { name := "wireBack", fn := fun _ => fun
  | [d1, d2, d3, d4, d5] => { results := [.lit (.bool false)], args := [d1, d2, d3, d4, d5] }
  | _ => none }
def WireBackWrongFalsely : Prop := wireBackRow.holds Tryd.pinned (OpenSpec.ofChange wireBackWrong)

/-- 'sodalitylaw11.WireKept': WHATEVER THE INPUT: true; the input reads as it did. -/
def wireKeptSpec : ChangeSpec := { name := "wireKept", fn := fun _ => fun
  | [d] => { results := [.lit (.bool true)], args := [d] }
  | _ => none }
def wireKeptRow : OpenClaim := { program := "ythjoafldndgahaadoor", sum := "c6b2e813ccee98f456f1ab36ec5b368b0307c830cfb0b098263ecf95165038d5", func := "sodality/sodalitylaw11.WireKept", spec := "wireKept", named := ["sodality/wire.classes"], apart := false, laid := [("sodality/wire.classes", laid_sodality_wire_classes)] }
def WireKeptSaid : Prop := wireKeptRow.holds Tryd.pinned (OpenSpec.ofChange wireKeptSpec)

/-- ITS FALSE NEIGHBOUR: 'it returns false'. Refute it at one input. -/
def wireKeptWrong : ChangeSpec := { name := "wireKept", fn := fun _ => fun
  | [d] => { results := [.lit (.bool false)], args := [d] }
  | _ => none }
def WireKeptWrongFalsely : Prop := wireKeptRow.holds Tryd.pinned (OpenSpec.ofChange wireKeptWrong)

/-- 'sodalitylaw11.WireApart': WHATEVER THE INPUT: true; the input reads as it did. -/
def wireApartSpec : ChangeSpec := { name := "wireApart", fn := fun _ => fun
  | [d1, d2, d3, d4, d5] => { results := [.lit (.bool true)], args := [d1, d2, d3, d4, d5] }
  | _ => none }
def wireApartRow : OpenClaim := { program := "ythjoafldndgahaadoor", sum := "c6b2e813ccee98f456f1ab36ec5b368b0307c830cfb0b098263ecf95165038d5", func := "sodality/sodalitylaw11.WireApart", spec := "wireApart", named := ["sodality/wire.classes"], apart := false, laid := [("sodality/wire.classes", laid_sodality_wire_classes)] }
def WireApartSaid : Prop := wireApartRow.holds Tryd.pinned (OpenSpec.ofChange wireApartSpec)

/-- ITS FALSE NEIGHBOUR: 'it returns false'. Refute it at one input. -/
def wireApartWrong : ChangeSpec := { name := "wireApart", fn := fun _ => fun
  | [d1, d2, d3, d4, d5] => { results := [.lit (.bool false)], args := [d1, d2, d3, d4, d5] }
  | _ => none }
def WireApartWrongFalsely : Prop := wireApartRow.holds Tryd.pinned (OpenSpec.ofChange wireApartWrong)

/-- 'sodalitylaw11.WireSizes': WHATEVER THE INPUT: true; the input reads as it did. -/
def wireSizesSpec : ChangeSpec := { name := "wireSizes", fn := fun _ => fun
  | [d1, d2] => { results := [.lit (.bool true)], args := [d1, d2] }
  | _ => none }
def wireSizesRow : OpenClaim := { program := "ythjoafldndgahaadoor", sum := "c6b2e813ccee98f456f1ab36ec5b368b0307c830cfb0b098263ecf95165038d5", func := "sodality/sodalitylaw11.WireSizes", spec := "wireSizes", named := ["sodality/wire.classes"], apart := false, laid := [("sodality/wire.classes", laid_sodality_wire_classes)] }
def WireSizesSaid : Prop := wireSizesRow.holds Tryd.pinned (OpenSpec.ofChange wireSizesSpec)

/-- ITS FALSE NEIGHBOUR: 'it returns false'. Refute it at one input. -/
def wireSizesWrong : ChangeSpec := { name := "wireSizes", fn := fun _ => fun
  | [d1, d2] => { results := [.lit (.bool false)], args := [d1, d2] }
  | _ => none }
def WireSizesWrongFalsely : Prop := wireSizesRow.holds Tryd.pinned (OpenSpec.ofChange wireSizesWrong)

/-- 'sodalitylaw11.WireRow': WHATEVER THE INPUT: true; the input reads as it did. -/
def wireRowSpec : ChangeSpec := { name := "wireRow", fn := fun _ => fun
  | [d1, d2] => { results := [.lit (.bool true)], args := [d1, d2] }
  | _ => none }
def wireRowRow : OpenClaim := { program := "ythjoafldndgahaadoor", sum := "c6b2e813ccee98f456f1ab36ec5b368b0307c830cfb0b098263ecf95165038d5", func := "sodality/sodalitylaw11.WireRow", spec := "wireRow", named := ["sodality/wire.classes"], apart := false, laid := [("sodality/wire.classes", laid_sodality_wire_classes)] }
def WireRowSaid : Prop := wireRowRow.holds Tryd.pinned (OpenSpec.ofChange wireRowSpec)

/-- ITS FALSE NEIGHBOUR: 'it returns false'. Refute it at one input. -/
def wireRowWrong : ChangeSpec := { name := "wireRow", fn := fun _ => fun
  | [d1, d2] => { results := [.lit (.bool false)], args := [d1, d2] }
  | _ => none }
def WireRowWrongFalsely : Prop := wireRowRow.holds Tryd.pinned (OpenSpec.ofChange wireRowWrong)

/- THE SECOND FORM. 'bulk': how many values and letters a reading holds, each counted each time it is reached (what is shared counts as often as it is met; a slice's spare places count too). A statement '..UptoSaid' is the law's where the arguments, and the package variables that the reading takes, are together of bulk at most 1048576: NARROWER than '..Said'. Prove '..Said' where nothing that the law and all that it calls make is longer than what came in: it says more and counts as full. Else prove '..UptoSaid'. A law counts once. -/
mutual
def uptoBulk {H : Type} : DataW H → Nat
  | .lit (.string bytes) => bytes.length + 1
  | .lit _ => 1
  | .nil => 1
  | .ptr d => uptoBulk d + 1
  | .slice elems spare => uptoBulkAll elems + uptoBulkAll spare + 1
  | .agg parts => uptoBulkAll parts + 1
  | .iface _ d => uptoBulk d + 1
  | .map entries => uptoBulkEntries entries + 1
  | .held _ => 1
def uptoBulkAll {H : Type} : List (DataW H) → Nat
  | [] => 0
  | d :: r => uptoBulk d + uptoBulkAll r
def uptoBulkEntries {H : Type} : List (Lit × DataW H) → Nat
  | [] => 0
  | x :: r => uptoBulkEntry x + uptoBulkEntries r
def uptoBulkEntry {H : Type} : Lit × DataW H → Nat
  | (.string bytes, d) => bytes.length + uptoBulk d + 1
  | (_, d) => uptoBulk d + 1
 end
def uptoSmall : (H : Type) → List (DataW H) → Bool := fun _ ds => decide (uptoBulkAll ds ≤ 1048576)
def OpenSpec.upto (s : _root_.Go.ChangeSpec) : _root_.Go.OpenSpec := { _root_.Go.OpenSpec.ofChange s with cond := some uptoSmall }

/-- 'sodalitylaw11.WireNumbers', WHERE WHAT IT READS IS OF BULK AT MOST 1048576: true; the input reads as it did. -/
def wireNumbersUptoRow : OpenClaim := { program := "ythjoafldndgahaadoor", sum := "c6b2e813ccee98f456f1ab36ec5b368b0307c830cfb0b098263ecf95165038d5", func := "sodality/sodalitylaw11.WireNumbers", spec := "wireNumbers", named := ["sodality/wire.classes"], apart := false, laid := [("sodality/wire.classes", laid_sodality_wire_classes)], narrowed := true }
def WireNumbersUptoSaid : Prop := wireNumbersUptoRow.holds Tryd.pinned (OpenSpec.upto wireNumbersSpec)

/-- 'sodalitylaw11.WireTexts', WHERE WHAT IT READS IS OF BULK AT MOST 1048576: true; the input reads as it did. -/
def wireTextsUptoRow : OpenClaim := { program := "ythjoafldndgahaadoor", sum := "c6b2e813ccee98f456f1ab36ec5b368b0307c830cfb0b098263ecf95165038d5", func := "sodality/sodalitylaw11.WireTexts", spec := "wireTexts", named := ["sodality/wire.classes"], apart := false, laid := [("sodality/wire.classes", laid_sodality_wire_classes)], narrowed := true }
def WireTextsUptoSaid : Prop := wireTextsUptoRow.holds Tryd.pinned (OpenSpec.upto wireTextsSpec)

/-- 'sodalitylaw11.WireBack', WHERE WHAT IT READS IS OF BULK AT MOST 1048576: true; the input reads as it did. -/
def wireBackUptoRow : OpenClaim := { program := "ythjoafldndgahaadoor", sum := "c6b2e813ccee98f456f1ab36ec5b368b0307c830cfb0b098263ecf95165038d5", func := "sodality/sodalitylaw11.WireBack", spec := "wireBack", named := ["sodality/wire.classes"], apart := false, laid := [("sodality/wire.classes", laid_sodality_wire_classes)], narrowed := true }
def WireBackUptoSaid : Prop := wireBackUptoRow.holds Tryd.pinned (OpenSpec.upto wireBackSpec)

/-- 'sodalitylaw11.WireKept', WHERE WHAT IT READS IS OF BULK AT MOST 1048576: true; the input reads as it did. -/
def wireKeptUptoRow : OpenClaim := { program := "ythjoafldndgahaadoor", sum := "c6b2e813ccee98f456f1ab36ec5b368b0307c830cfb0b098263ecf95165038d5", func := "sodality/sodalitylaw11.WireKept", spec := "wireKept", named := ["sodality/wire.classes"], apart := false, laid := [("sodality/wire.classes", laid_sodality_wire_classes)], narrowed := true }
def WireKeptUptoSaid : Prop := wireKeptUptoRow.holds Tryd.pinned (OpenSpec.upto wireKeptSpec)

/-- 'sodalitylaw11.WireApart', WHERE WHAT IT READS IS OF BULK AT MOST 1048576: true; the input reads as it did. -/
def wireApartUptoRow : OpenClaim := { program := "ythjoafldndgahaadoor", sum := "c6b2e813ccee98f456f1ab36ec5b368b0307c830cfb0b098263ecf95165038d5", func := "sodality/sodalitylaw11.WireApart", spec := "wireApart", named := ["sodality/wire.classes"], apart := false, laid := [("sodality/wire.classes", laid_sodality_wire_classes)], narrowed := true }
def WireApartUptoSaid : Prop := wireApartUptoRow.holds Tryd.pinned (OpenSpec.upto wireApartSpec)

/-- 'sodalitylaw11.WireSizes', WHERE WHAT IT READS IS OF BULK AT MOST 1048576: true; the input reads as it did. -/
def wireSizesUptoRow : OpenClaim := { program := "ythjoafldndgahaadoor", sum := "c6b2e813ccee98f456f1ab36ec5b368b0307c830cfb0b098263ecf95165038d5", func := "sodality/sodalitylaw11.WireSizes", spec := "wireSizes", named := ["sodality/wire.classes"], apart := false, laid := [("sodality/wire.classes", laid_sodality_wire_classes)], narrowed := true }
def WireSizesUptoSaid : Prop := wireSizesUptoRow.holds Tryd.pinned (OpenSpec.upto wireSizesSpec)

/-- 'sodalitylaw11.WireRow', WHERE WHAT IT READS IS OF BULK AT MOST 1048576: true; the input reads as it did. -/
def wireRowUptoRow : OpenClaim := { program := "ythjoafldndgahaadoor", sum := "c6b2e813ccee98f456f1ab36ec5b368b0307c830cfb0b098263ecf95165038d5", func := "sodality/sodalitylaw11.WireRow", spec := "wireRow", named := ["sodality/wire.classes"], apart := false, laid := [("sodality/wire.classes", laid_sodality_wire_classes)], narrowed := true }
def WireRowUptoSaid : Prop := wireRowUptoRow.holds Tryd.pinned (OpenSpec.upto wireRowSpec)

end Rows
end Go.Proofs.YthjoafldndgahaaDoor
