/-
  NARROWER THAN 'FOR EVERY INPUT', by the rows' own cells (each row's printed sentence says how): SpotTells: laid · SpotNumbers: laid · SpotBelow: laid · SpotMeets: laid · SpotPairs: laid · SpotPaths: laid.
  DERIVED. THE GIVEN ROWS OF THIS SEAT. 6 by the template 'for every input the law returns true; each argument reads behind the call as it read before'; 0 by the template 'total and deterministic' (their statements: YtgpjlofdeidacaaDoorTotals.lean).
  GIVEN WITH THE SEED: the statements are not yours to turn. If you find one false, say at which input.
  Laid BY PROGRAM, IN A SANDBOX (cutbox-rows.mjs): the forced cells as the released guide's own fill.sh prints them over the translation 1b852cb76427486f… (all of the seat's roots in one cut). By AI agents, Wed Nov 11 2026. No macro, syntax, notation, axiom, sorry.
-/
import Derived.Test.YtgpjlofdeidacaaDoorChecked
import GoSem.Claim
import GoSem.ClaimJoined
import GoSem.ClaimMapViews
import Derived.JoinedTies
import Derived.KernelRfl
namespace Go.Proofs.YtgpjlofdeidacaaDoor
/- THE CELL 'sum', in the pinned program and in every row, IS THE sha256 OF THE DUMP (.gsa) THAT YtgpjlofdeidacaaDoorProg.lean LOADS. Nothing in Lean hashes anything: it is a label: what it is worth is what the hold of that sum in a sandbox is worth. -/
noncomputable def Tryd.pinned : Pinned := { name := "ytgpjlofdeidacaadoor", sum := "1b852cb76427486f4a63fee3ef8ff6b12d409037e9298188d83c3a6ba5cb2fb6", checked := Tryd.checked }
namespace Rows
def none {H : Type} : Left H := { results := [], args := [] }

/- WHAT THE LISTED PACKAGE-LEVEL VARIABLES READ AS WHEN THE CALL BEGINS. Each datum BY PROGRAM (the guide's laid-datum.mjs) off the statement by which the dump's own 'gosem.cut.vars' lays the variable. In a bare row this is a premise. The card (YtgpjlofdeidacaaDoorCards.lean) ties it to the program's text. -/
def laid_math_bits_deBruijn32tab {H : Type} : DataW H := .agg [.lit (.int .u8 0), .lit (.int .u8 1), .lit (.int .u8 28), .lit (.int .u8 2), .lit (.int .u8 29), .lit (.int .u8 14), .lit (.int .u8 24), .lit (.int .u8 3), .lit (.int .u8 30), .lit (.int .u8 22), .lit (.int .u8 20), .lit (.int .u8 15), .lit (.int .u8 25), .lit (.int .u8 17), .lit (.int .u8 4), .lit (.int .u8 8), .lit (.int .u8 31), .lit (.int .u8 27), .lit (.int .u8 13), .lit (.int .u8 23), .lit (.int .u8 21), .lit (.int .u8 19), .lit (.int .u8 16), .lit (.int .u8 7), .lit (.int .u8 26), .lit (.int .u8 12), .lit (.int .u8 18), .lit (.int .u8 6), .lit (.int .u8 11), .lit (.int .u8 5), .lit (.int .u8 10), .lit (.int .u8 9)]
def laid_math_bits_deBruijn64tab {H : Type} : DataW H := .agg [.lit (.int .u8 0), .lit (.int .u8 1), .lit (.int .u8 56), .lit (.int .u8 2), .lit (.int .u8 57), .lit (.int .u8 49), .lit (.int .u8 28), .lit (.int .u8 3), .lit (.int .u8 61), .lit (.int .u8 58), .lit (.int .u8 42), .lit (.int .u8 50), .lit (.int .u8 38), .lit (.int .u8 29), .lit (.int .u8 17), .lit (.int .u8 4), .lit (.int .u8 62), .lit (.int .u8 47), .lit (.int .u8 59), .lit (.int .u8 36), .lit (.int .u8 45), .lit (.int .u8 43), .lit (.int .u8 51), .lit (.int .u8 22), .lit (.int .u8 53), .lit (.int .u8 39), .lit (.int .u8 33), .lit (.int .u8 30), .lit (.int .u8 24), .lit (.int .u8 18), .lit (.int .u8 12), .lit (.int .u8 5), .lit (.int .u8 63), .lit (.int .u8 55), .lit (.int .u8 48), .lit (.int .u8 27), .lit (.int .u8 60), .lit (.int .u8 41), .lit (.int .u8 37), .lit (.int .u8 16), .lit (.int .u8 46), .lit (.int .u8 35), .lit (.int .u8 44), .lit (.int .u8 21), .lit (.int .u8 52), .lit (.int .u8 32), .lit (.int .u8 23), .lit (.int .u8 11), .lit (.int .u8 54), .lit (.int .u8 26), .lit (.int .u8 40), .lit (.int .u8 15), .lit (.int .u8 34), .lit (.int .u8 20), .lit (.int .u8 31), .lit (.int .u8 10), .lit (.int .u8 25), .lit (.int .u8 14), .lit (.int .u8 19), .lit (.int .u8 9), .lit (.int .u8 13), .lit (.int .u8 8), .lit (.int .u8 7), .lit (.int .u8 6)]

/-- 'sodalitylaw13.SpotTells': WHATEVER THE INPUT: true; the input reads as it did. -/
def spotTellsSpec : ChangeSpec := { name := "spotTells", fn := fun _ => fun
  | [d1, d2, d3, d4, d5] => { results := [.lit (.bool true)], args := [d1, d2, d3, d4, d5] }
  | _ => none }
def spotTellsRow : OpenClaim := { program := "ytgpjlofdeidacaadoor", sum := "1b852cb76427486f4a63fee3ef8ff6b12d409037e9298188d83c3a6ba5cb2fb6", func := "sodality/sodalitylaw13.SpotTells", spec := "spotTells", inPlace := ["math.archFloor", "math.Float64bits", "math.Float64frombits", "math.archTrunc"], named := ["math/bits.deBruijn32tab", "math/bits.deBruijn64tab"], apart := false, laid := [("math/bits.deBruijn32tab", laid_math_bits_deBruijn32tab), ("math/bits.deBruijn64tab", laid_math_bits_deBruijn64tab)] }
def SpotTellsSaid : Prop := spotTellsRow.holds Tryd.pinned (OpenSpec.ofChange spotTellsSpec)

/-- ITS FALSE NEIGHBOUR: 'it returns false'. Refute it at one input. -/
def spotTellsWrong : ChangeSpec := { name := "spotTells", fn := fun _ => fun
  | [d1, d2, d3, d4, d5] => { results := [.lit (.bool false)], args := [d1, d2, d3, d4, d5] }
  | _ => none }
def SpotTellsWrongFalsely : Prop := spotTellsRow.holds Tryd.pinned (OpenSpec.ofChange spotTellsWrong)

/-- 'sodalitylaw13.SpotNumbers': WHATEVER THE INPUT: true; the input reads as it did. -/
def spotNumbersSpec : ChangeSpec := { name := "spotNumbers", fn := fun _ => fun
  | [d1, d2, d3] => { results := [.lit (.bool true)], args := [d1, d2, d3] }
  | _ => none }
def spotNumbersRow : OpenClaim := { program := "ytgpjlofdeidacaadoor", sum := "1b852cb76427486f4a63fee3ef8ff6b12d409037e9298188d83c3a6ba5cb2fb6", func := "sodality/sodalitylaw13.SpotNumbers", spec := "spotNumbers", inPlace := ["math.archFloor", "math.Float64bits", "math.Float64frombits", "math.archTrunc"], named := ["math/bits.deBruijn32tab", "math/bits.deBruijn64tab"], apart := false, laid := [("math/bits.deBruijn32tab", laid_math_bits_deBruijn32tab), ("math/bits.deBruijn64tab", laid_math_bits_deBruijn64tab)] }
def SpotNumbersSaid : Prop := spotNumbersRow.holds Tryd.pinned (OpenSpec.ofChange spotNumbersSpec)

/-- ITS FALSE NEIGHBOUR: 'it returns false'. Refute it at one input. -/
def spotNumbersWrong : ChangeSpec := { name := "spotNumbers", fn := fun _ => fun
  | [d1, d2, d3] => { results := [.lit (.bool false)], args := [d1, d2, d3] }
  | _ => none }
def SpotNumbersWrongFalsely : Prop := spotNumbersRow.holds Tryd.pinned (OpenSpec.ofChange spotNumbersWrong)

/-- 'sodalitylaw13.SpotBelow': WHATEVER THE INPUT: true; the input reads as it did. -/
def spotBelowSpec : ChangeSpec := { name := "spotBelow", fn := fun _ => fun
  | [d1, d2] => { results := [.lit (.bool true)], args := [d1, d2] }
  | _ => none }
def spotBelowRow : OpenClaim := { program := "ytgpjlofdeidacaadoor", sum := "1b852cb76427486f4a63fee3ef8ff6b12d409037e9298188d83c3a6ba5cb2fb6", func := "sodality/sodalitylaw13.SpotBelow", spec := "spotBelow", inPlace := ["math.archFloor", "math.Float64bits", "math.Float64frombits", "math.archTrunc"], named := ["math/bits.deBruijn32tab", "math/bits.deBruijn64tab"], apart := false, laid := [("math/bits.deBruijn32tab", laid_math_bits_deBruijn32tab), ("math/bits.deBruijn64tab", laid_math_bits_deBruijn64tab)] }
def SpotBelowSaid : Prop := spotBelowRow.holds Tryd.pinned (OpenSpec.ofChange spotBelowSpec)

/-- ITS FALSE NEIGHBOUR: 'it returns false'. Refute it at one input. -/
def spotBelowWrong : ChangeSpec := { name := "spotBelow", fn := fun _ => fun
  | [d1, d2] => { results := [.lit (.bool false)], args := [d1, d2] }
  | _ => none }
def SpotBelowWrongFalsely : Prop := spotBelowRow.holds Tryd.pinned (OpenSpec.ofChange spotBelowWrong)

/-- 'sodalitylaw13.SpotMeets': WHATEVER THE INPUT: true; the input reads as it did. -/
def spotMeetsSpec : ChangeSpec := { name := "spotMeets", fn := fun _ => fun
  | [d1, d2] => { results := [.lit (.bool true)], args := [d1, d2] }
  | _ => none }
def spotMeetsRow : OpenClaim := { program := "ytgpjlofdeidacaadoor", sum := "1b852cb76427486f4a63fee3ef8ff6b12d409037e9298188d83c3a6ba5cb2fb6", func := "sodality/sodalitylaw13.SpotMeets", spec := "spotMeets", inPlace := ["math.archFloor", "math.Float64bits", "math.Float64frombits", "math.archTrunc"], named := ["math/bits.deBruijn32tab", "math/bits.deBruijn64tab"], apart := false, laid := [("math/bits.deBruijn32tab", laid_math_bits_deBruijn32tab), ("math/bits.deBruijn64tab", laid_math_bits_deBruijn64tab)] }
def SpotMeetsSaid : Prop := spotMeetsRow.holds Tryd.pinned (OpenSpec.ofChange spotMeetsSpec)

/-- ITS FALSE NEIGHBOUR: 'it returns false'. Refute it at one input. -/
def spotMeetsWrong : ChangeSpec := { name := "spotMeets", fn := fun _ => fun
  | [d1, d2] => { results := [.lit (.bool false)], args := [d1, d2] }
  | _ => none }
def SpotMeetsWrongFalsely : Prop := spotMeetsRow.holds Tryd.pinned (OpenSpec.ofChange spotMeetsWrong)

/-- 'sodalitylaw13.SpotPairs': WHATEVER THE INPUT: true; the input reads as it did. -/
def spotPairsSpec : ChangeSpec := { name := "spotPairs", fn := fun _ => fun
  | [d1, d2, d3] => { results := [.lit (.bool true)], args := [d1, d2, d3] }
  | _ => none }
def spotPairsRow : OpenClaim := { program := "ytgpjlofdeidacaadoor", sum := "1b852cb76427486f4a63fee3ef8ff6b12d409037e9298188d83c3a6ba5cb2fb6", func := "sodality/sodalitylaw13.SpotPairs", spec := "spotPairs", inPlace := ["math.archFloor", "math.Float64bits", "math.Float64frombits", "math.archTrunc"], named := ["math/bits.deBruijn32tab", "math/bits.deBruijn64tab"], apart := false, laid := [("math/bits.deBruijn32tab", laid_math_bits_deBruijn32tab), ("math/bits.deBruijn64tab", laid_math_bits_deBruijn64tab)] }
def SpotPairsSaid : Prop := spotPairsRow.holds Tryd.pinned (OpenSpec.ofChange spotPairsSpec)

/-- ITS FALSE NEIGHBOUR: 'it returns false'. Refute it at one input. -/
def spotPairsWrong : ChangeSpec := { name := "spotPairs", fn := fun _ => fun
  | [d1, d2, d3] => { results := [.lit (.bool false)], args := [d1, d2, d3] }
  | _ => none }
def SpotPairsWrongFalsely : Prop := spotPairsRow.holds Tryd.pinned (OpenSpec.ofChange spotPairsWrong)

/-- 'sodalitylaw13.SpotPaths': WHATEVER THE INPUT: true; the input reads as it did. -/
def spotPathsSpec : ChangeSpec := { name := "spotPaths", fn := fun _ => fun
  | [d1, d2, d3] => { results := [.lit (.bool true)], args := [d1, d2, d3] }
  | _ => none }
def spotPathsRow : OpenClaim := { program := "ytgpjlofdeidacaadoor", sum := "1b852cb76427486f4a63fee3ef8ff6b12d409037e9298188d83c3a6ba5cb2fb6", func := "sodality/sodalitylaw13.SpotPaths", spec := "spotPaths", inPlace := ["math.archFloor", "math.Float64bits", "math.Float64frombits", "math.archTrunc"], named := ["math/bits.deBruijn32tab", "math/bits.deBruijn64tab"], apart := false, laid := [("math/bits.deBruijn32tab", laid_math_bits_deBruijn32tab), ("math/bits.deBruijn64tab", laid_math_bits_deBruijn64tab)] }
def SpotPathsSaid : Prop := spotPathsRow.holds Tryd.pinned (OpenSpec.ofChange spotPathsSpec)

/-- ITS FALSE NEIGHBOUR: 'it returns false'. Refute it at one input. -/
def spotPathsWrong : ChangeSpec := { name := "spotPaths", fn := fun _ => fun
  | [d1, d2, d3] => { results := [.lit (.bool false)], args := [d1, d2, d3] }
  | _ => none }
def SpotPathsWrongFalsely : Prop := spotPathsRow.holds Tryd.pinned (OpenSpec.ofChange spotPathsWrong)

/- THE SECOND FORM. 'bulk': how many values and letters a reading holds, each counted each time it is reached (what is shared counts as often as it is met; a slice's spare places count too). A statement '..UptoSaid' is the law's where the arguments, and the package variables that the reading takes, are together of bulk at most 1048576: NARROWER than '..Said'. Prove '..Said' where nothing that the law and all that it calls make is longer than what came in: it says more and counts as full. Else prove '..UptoSaid'. A law counts once. -/
mutual
def uptoBulk {H : Type} : DataW H → Nat
  | .lit (.string bytes) => bytes.length + 1
  | .lit _ => 1
  | .nil => 1
  | .ptr d => uptoBulk d + 1
  | .slice elems spare => uptoBulkAll elems + uptoBulkAll spare + 1
  | .agg parts => uptoBulkAll parts + 1
  | .iface _ d => uptoBulk d + 1
  | .map entries => uptoBulkEntries entries + 1
  | .held _ => 1
def uptoBulkAll {H : Type} : List (DataW H) → Nat
  | [] => 0
  | d :: r => uptoBulk d + uptoBulkAll r
def uptoBulkEntries {H : Type} : List (Lit × DataW H) → Nat
  | [] => 0
  | x :: r => uptoBulkEntry x + uptoBulkEntries r
def uptoBulkEntry {H : Type} : Lit × DataW H → Nat
  | (.string bytes, d) => bytes.length + uptoBulk d + 1
  | (_, d) => uptoBulk d + 1
 end
def uptoSmall : (H : Type) → List (DataW H) → Bool := fun _ ds => decide (uptoBulkAll ds ≤ 1048576)
def OpenSpec.upto (s : _root_.Go.ChangeSpec) : _root_.Go.OpenSpec := { _root_.Go.OpenSpec.ofChange s with cond := some uptoSmall }

/-- 'sodalitylaw13.SpotTells', WHERE WHAT IT READS IS OF BULK AT MOST 1048576: true; the input reads as it did. -/
def spotTellsUptoRow : OpenClaim := { program := "ytgpjlofdeidacaadoor", sum := "1b852cb76427486f4a63fee3ef8ff6b12d409037e9298188d83c3a6ba5cb2fb6", func := "sodality/sodalitylaw13.SpotTells", spec := "spotTells", inPlace := ["math.archFloor", "math.Float64bits", "math.Float64frombits", "math.archTrunc"], named := ["math/bits.deBruijn32tab", "math/bits.deBruijn64tab"], apart := false, laid := [("math/bits.deBruijn32tab", laid_math_bits_deBruijn32tab), ("math/bits.deBruijn64tab", laid_math_bits_deBruijn64tab)], narrowed := true }
def SpotTellsUptoSaid : Prop := spotTellsUptoRow.holds Tryd.pinned (OpenSpec.upto spotTellsSpec)

/-- 'sodalitylaw13.SpotNumbers', WHERE WHAT IT READS IS OF BULK AT MOST 1048576: true; the input reads as it did. -/
def spotNumbersUptoRow : OpenClaim := { program := "ytgpjlofdeidacaadoor", sum := "1b852cb76427486f4a63fee3ef8ff6b12d409037e9298188d83c3a6ba5cb2fb6", func := "sodality/sodalitylaw13.SpotNumbers", spec := "spotNumbers", inPlace := ["math.archFloor", "math.Float64bits", "math.Float64frombits", "math.archTrunc"], named := ["math/bits.deBruijn32tab", "math/bits.deBruijn64tab"], apart := false, laid := [("math/bits.deBruijn32tab", laid_math_bits_deBruijn32tab), ("math/bits.deBruijn64tab", laid_math_bits_deBruijn64tab)], narrowed := true }
def SpotNumbersUptoSaid : Prop := spotNumbersUptoRow.holds Tryd.pinned (OpenSpec.upto spotNumbersSpec)

/-- 'sodalitylaw13.SpotBelow', WHERE WHAT IT READS IS OF BULK AT MOST 1048576: true; the input reads as it did. -/
def spotBelowUptoRow : OpenClaim := { program := "ytgpjlofdeidacaadoor", sum := "1b852cb76427486f4a63fee3ef8ff6b12d409037e9298188d83c3a6ba5cb2fb6", func := "sodality/sodalitylaw13.SpotBelow", spec := "spotBelow", inPlace := ["math.archFloor", "math.Float64bits", "math.Float64frombits", "math.archTrunc"], named := ["math/bits.deBruijn32tab", "math/bits.deBruijn64tab"], apart := false, laid := [("math/bits.deBruijn32tab", laid_math_bits_deBruijn32tab), ("math/bits.deBruijn64tab", laid_math_bits_deBruijn64tab)], narrowed := true }
def SpotBelowUptoSaid : Prop := spotBelowUptoRow.holds Tryd.pinned (OpenSpec.upto spotBelowSpec)

/-- 'sodalitylaw13.SpotMeets', WHERE WHAT IT READS IS OF BULK AT MOST 1048576: true; the input reads as it did. -/
def spotMeetsUptoRow : OpenClaim := { program := "ytgpjlofdeidacaadoor", sum := "1b852cb76427486f4a63fee3ef8ff6b12d409037e9298188d83c3a6ba5cb2fb6", func := "sodality/sodalitylaw13.SpotMeets", spec := "spotMeets", inPlace := ["math.archFloor", "math.Float64bits", "math.Float64frombits", "math.archTrunc"], named := ["math/bits.deBruijn32tab", "math/bits.deBruijn64tab"], apart := false, laid := [("math/bits.deBruijn32tab", laid_math_bits_deBruijn32tab), ("math/bits.deBruijn64tab", laid_math_bits_deBruijn64tab)], narrowed := true }
def SpotMeetsUptoSaid : Prop := spotMeetsUptoRow.holds Tryd.pinned (OpenSpec.upto spotMeetsSpec)

/-- 'sodalitylaw13.SpotPairs', WHERE WHAT IT READS IS OF BULK AT MOST 1048576: true; the input reads as it did. -/
def spotPairsUptoRow : OpenClaim := { program := "ytgpjlofdeidacaadoor", sum := "1b852cb76427486f4a63fee3ef8ff6b12d409037e9298188d83c3a6ba5cb2fb6", func := "sodality/sodalitylaw13.SpotPairs", spec := "spotPairs", inPlace := ["math.archFloor", "math.Float64bits", "math.Float64frombits", "math.archTrunc"], named := ["math/bits.deBruijn32tab", "math/bits.deBruijn64tab"], apart := false, laid := [("math/bits.deBruijn32tab", laid_math_bits_deBruijn32tab), ("math/bits.deBruijn64tab", laid_math_bits_deBruijn64tab)], narrowed := true }
def SpotPairsUptoSaid : Prop := spotPairsUptoRow.holds Tryd.pinned (OpenSpec.upto spotPairsSpec)

/-- 'sodalitylaw13.SpotPaths', WHERE WHAT IT READS IS OF BULK AT MOST 1048576: true; the input reads as it did. -/
def spotPathsUptoRow : OpenClaim := { program := "ytgpjlofdeidacaadoor", sum := "1b852cb76427486f4a63fee3ef8ff6b12d409037e9298188d83c3a6ba5cb2fb6", func := "sodality/sodalitylaw13.SpotPaths", spec := "spotPaths", inPlace := ["math.archFloor", "math.Float64bits", "math.Float64frombits", "math.archTrunc"], named := ["math/bits.deBruijn32tab", "math/bits.deBruijn64tab"], apart := false, laid := [("math/bits.deBruijn32tab", laid_math_bits_deBruijn32tab), ("math/bits.deBruijn64tab", laid_math_bits_deBruijn64tab)], narrowed := true }
def SpotPathsUptoSaid : Prop := spotPathsUptoRow.holds Tryd.pinned (OpenSpec.upto spotPathsSpec)

end Rows
end Go.Proofs.YtgpjlofdeidacaaDoor
