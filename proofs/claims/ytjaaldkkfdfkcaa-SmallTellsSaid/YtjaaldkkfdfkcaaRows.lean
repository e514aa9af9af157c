/-
  No cell of these rows narrows 'for every input' (looked for: loops, veiled, ifaces, maps, wideKeys, modest, calm, conditions, laid).
  DERIVED. THE GIVEN ROWS OF THIS SEAT. 6 by the template 'for every input the law returns true; each argument reads behind the call as it read before'; 0 by the template 'total and deterministic' (their statements: YtjaaldkkfdfkcaaTotals.lean).
  GIVEN WITH THE SEED: the statements are not yours to turn. If you find one false, say at which input.
  Laid BY PROGRAM, IN A SANDBOX (cutbox-rows.mjs): the forced cells as the released guide's own fill.sh prints them over the translation 412f2ce6c165679e… (all of the seat's roots in one cut). By AI agents, Wed Nov 11 2026. No macro, syntax, notation, axiom, sorry.
-/
import Derived.Test.YtjaaldkkfdfkcaaChecked
import GoSem.Claim
import GoSem.ClaimJoined
import GoSem.ClaimMapViews
import Derived.JoinedTies
import Derived.KernelRfl
namespace Go.Proofs.Ytjaaldkkfdfkcaa
/- THE CELL 'sum', in the pinned program and in every row, IS THE sha256 OF THE DUMP (.gsa) THAT YtjaaldkkfdfkcaaProg.lean LOADS. Nothing in Lean hashes anything: it is a label: what it is worth is what the hold of that sum in a sandbox is worth. -/
noncomputable def Try.pinned : Pinned := { name := "ytjaaldkkfdfkcaa", sum := "412f2ce6c165679e3c4faff2f63e4f308a9de31b22dc449657c1c98a14b40b0a", checked := Try.checked }
namespace Rows
def none {H : Type} : Left H := { results := [], args := [] }

/-- 'sodalitylaw04.SmallTells': WHATEVER THE INPUT: true; the input reads as it did. -/
def smallTellsSpec : ChangeSpec := { name := "smallTells", fn := fun _ => fun
  | [d1, d2] => { results := [.lit (.bool true)], args := [d1, d2] }
  | _ => none }
def smallTellsRow : OpenClaim := { program := "ytjaaldkkfdfkcaa", sum := "412f2ce6c165679e3c4faff2f63e4f308a9de31b22dc449657c1c98a14b40b0a", func := "sodality/sodalitylaw04.SmallTells", spec := "smallTells", unfollowed := true, recurses := true, apart := false }
def SmallTellsSaid : Prop := smallTellsRow.holds Try.pinned (OpenSpec.ofChange smallTellsSpec)

/-- ITS FALSE NEIGHBOUR: 'it returns false'. Refute it at one input. -/
def smallTellsWrong : ChangeSpec := { name := "smallTells", fn := fun _ => fun
  | [d1, d2] => { results := [.lit (.bool false)], args := [d1, d2] }
  | _ => none }
def SmallTellsWrongFalsely : Prop := smallTellsRow.holds Try.pinned (OpenSpec.ofChange smallTellsWrong)

/-- 'sodalitylaw04.SmallBack': WHATEVER THE INPUT: true; the input reads as it did. -/
def smallBackSpec : ChangeSpec := { name := "smallBack", fn := fun _ => fun
  | [d] => { results := [.lit (.bool true)], args := [d] }
  | _ => none }
def smallBackRow : OpenClaim := { program := "ytjaaldkkfdfkcaa", sum := "412f2ce6c165679e3c4faff2f63e4f308a9de31b22dc449657c1c98a14b40b0a", func := "sodality/sodalitylaw04.SmallBack", spec := "smallBack", unfollowed := true, recurses := true, apart := false }
def SmallBackSaid : Prop := smallBackRow.holds Try.pinned (OpenSpec.ofChange smallBackSpec)

/-- ITS FALSE NEIGHBOUR: 'it returns false'. Refute it at one input. -/
def smallBackWrong : ChangeSpec := { name := "smallBack", fn := fun _ => fun
  | [d] => { results := [.lit (.bool false)], args := [d] }
  | _ => none }
def SmallBackWrongFalsely : Prop := smallBackRow.holds Try.pinned (OpenSpec.ofChange smallBackWrong)

/-- 'sodalitylaw04.SmallProducts': WHATEVER THE INPUT: true; the input reads as it did. -/
def smallProductsSpec : ChangeSpec := { name := "smallProducts", fn := fun _ => fun
  | [d1, d2] => { results := [.lit (.bool true)], args := [d1, d2] }
  | _ => none }
def smallProductsRow : OpenClaim := { program := "ytjaaldkkfdfkcaa", sum := "412f2ce6c165679e3c4faff2f63e4f308a9de31b22dc449657c1c98a14b40b0a", func := "sodality/sodalitylaw04.SmallProducts", spec := "smallProducts", unfollowed := true, recurses := true, apart := false }
def SmallProductsSaid : Prop := smallProductsRow.holds Try.pinned (OpenSpec.ofChange smallProductsSpec)

/-- ITS FALSE NEIGHBOUR: 'it returns false'. Refute it at one input. -/
def smallProductsWrong : ChangeSpec := { name := "smallProducts", fn := fun _ => fun
  | [d1, d2] => { results := [.lit (.bool false)], args := [d1, d2] }
  | _ => none }
def SmallProductsWrongFalsely : Prop := smallProductsRow.holds Try.pinned (OpenSpec.ofChange smallProductsWrong)

/-- 'sodalitylaw04.SmallSums': WHATEVER THE INPUT: true; the input reads as it did. -/
def smallSumsSpec : ChangeSpec := { name := "smallSums", fn := fun _ => fun
  | [d1, d2, d3] => { results := [.lit (.bool true)], args := [d1, d2, d3] }
  | _ => none }
def smallSumsRow : OpenClaim := { program := "ytjaaldkkfdfkcaa", sum := "412f2ce6c165679e3c4faff2f63e4f308a9de31b22dc449657c1c98a14b40b0a", func := "sodality/sodalitylaw04.SmallSums", spec := "smallSums", unfollowed := true, recurses := true, apart := false }
def SmallSumsSaid : Prop := smallSumsRow.holds Try.pinned (OpenSpec.ofChange smallSumsSpec)

/-- ITS FALSE NEIGHBOUR: 'it returns false'. Refute it at one input. -/
def smallSumsWrong : ChangeSpec := { name := "smallSums", fn := fun _ => fun
  | [d1, d2, d3] => { results := [.lit (.bool false)], args := [d1, d2, d3] }
  | _ => none }
def SmallSumsWrongFalsely : Prop := smallSumsRow.holds Try.pinned (OpenSpec.ofChange smallSumsWrong)

/-- 'sodalitylaw04.SmallShift': WHATEVER THE INPUT: true; the input reads as it did. -/
def smallShiftSpec : ChangeSpec := { name := "smallShift", fn := fun _ => fun
  | [d] => { results := [.lit (.bool true)], args := [d] }
  | _ => none }
def smallShiftRow : OpenClaim := { program := "ytjaaldkkfdfkcaa", sum := "412f2ce6c165679e3c4faff2f63e4f308a9de31b22dc449657c1c98a14b40b0a", func := "sodality/sodalitylaw04.SmallShift", spec := "smallShift", unfollowed := true, recurses := true, apart := false }
def SmallShiftSaid : Prop := smallShiftRow.holds Try.pinned (OpenSpec.ofChange smallShiftSpec)

/-- ITS FALSE NEIGHBOUR: 'it returns false'. Refute it at one input. -/
def smallShiftWrong : ChangeSpec := { name := "smallShift", fn := fun _ => fun
  | [d] => { results := [.lit (.bool false)], args := [d] }
  | _ => none }
def SmallShiftWrongFalsely : Prop := smallShiftRow.holds Try.pinned (OpenSpec.ofChange smallShiftWrong)

/-- 'sodalitylaw04.SmallScalars': WHATEVER THE INPUT: true; the input reads as it did. -/
def smallScalarsSpec : ChangeSpec := { name := "smallScalars", fn := fun _ => fun
  | [d1, d2] => { results := [.lit (.bool true)], args := [d1, d2] }
  | _ => none }
def smallScalarsRow : OpenClaim := { program := "ytjaaldkkfdfkcaa", sum := "412f2ce6c165679e3c4faff2f63e4f308a9de31b22dc449657c1c98a14b40b0a", func := "sodality/sodalitylaw04.SmallScalars", spec := "smallScalars", unfollowed := true, recurses := true, apart := false }
def SmallScalarsSaid : Prop := smallScalarsRow.holds Try.pinned (OpenSpec.ofChange smallScalarsSpec)

/-- ITS FALSE NEIGHBOUR: 'it returns false'. Refute it at one input. -/
def smallScalarsWrong : ChangeSpec := { name := "smallScalars", fn := fun _ => fun
  | [d1, d2] => { results := [.lit (.bool false)], args := [d1, d2] }
  | _ => none }
def SmallScalarsWrongFalsely : Prop := smallScalarsRow.holds Try.pinned (OpenSpec.ofChange smallScalarsWrong)

/- THE SECOND FORM. 'bulk': how many values and letters a reading holds, each counted each time it is reached (what is shared counts as often as it is met; a slice's spare places count too). A statement '..UptoSaid' is the law's where the arguments, and the package variables that the reading takes, are together of bulk at most 1048576: NARROWER than '..Said'. Prove '..Said' where nothing that the law and all that it calls make is longer than what came in: it says more and counts as full. Else prove '..UptoSaid'. A law counts once. -/
mutual
def uptoBulk {H : Type} : DataW H → Nat
  | .lit (.string bytes) => bytes.length + 1
  | .lit _ => 1
  | .nil => 1
  | .ptr d => uptoBulk d + 1
  | .slice elems spare => uptoBulkAll elems + uptoBulkAll spare + 1
  | .agg parts => uptoBulkAll parts + 1
  | .iface _ d => uptoBulk d + 1
  | .map entries => uptoBulkEntries entries + 1
  | .held _ => 1
def uptoBulkAll {H : Type} : List (DataW H) → Nat
  | [] => 0
  | d :: r => uptoBulk d + uptoBulkAll r
def uptoBulkEntries {H : Type} : List (Lit × DataW H) → Nat
  | [] => 0
  | x :: r => uptoBulkEntry x + uptoBulkEntries r
def uptoBulkEntry {H : Type} : Lit × DataW H → Nat
  | (.string bytes, d) => bytes.length + uptoBulk d + 1
  | (_, d) => uptoBulk d + 1
 end
def uptoSmall : (H : Type) → List (DataW H) → Bool := fun _ ds => decide (uptoBulkAll ds ≤ 1048576)
def OpenSpec.upto (s : _root_.Go.ChangeSpec) : _root_.Go.OpenSpec := { _root_.Go.OpenSpec.ofChange s with cond := some uptoSmall }

/-- 'sodalitylaw04.SmallTells', WHERE WHAT IT READS IS OF BULK AT MOST 1048576: true; the input reads as it did. -/
def smallTellsUptoRow : OpenClaim := { program := "ytjaaldkkfdfkcaa", sum := "412f2ce6c165679e3c4faff2f63e4f308a9de31b22dc449657c1c98a14b40b0a", func := "sodality/sodalitylaw04.SmallTells", spec := "smallTells", unfollowed := true, recurses := true, apart := false, narrowed := true }
def SmallTellsUptoSaid : Prop := smallTellsUptoRow.holds Try.pinned (OpenSpec.upto smallTellsSpec)

/-- 'sodalitylaw04.SmallBack', WHERE WHAT IT READS IS OF BULK AT MOST 1048576: true; the input reads as it did. -/
def smallBackUptoRow : OpenClaim := { program := "ytjaaldkkfdfkcaa", sum := "412f2ce6c165679e3c4faff2f63e4f308a9de31b22dc449657c1c98a14b40b0a", func := "sodality/sodalitylaw04.SmallBack", spec := "smallBack", unfollowed := true, recurses := true, apart := false, narrowed := true }
def SmallBackUptoSaid : Prop := smallBackUptoRow.holds Try.pinned (OpenSpec.upto smallBackSpec)

/-- 'sodalitylaw04.SmallProducts', WHERE WHAT IT READS IS OF BULK AT MOST 1048576: true; the input reads as it did. -/
def smallProductsUptoRow : OpenClaim := { program := "ytjaaldkkfdfkcaa", sum := "412f2ce6c165679e3c4faff2f63e4f308a9de31b22dc449657c1c98a14b40b0a", func := "sodality/sodalitylaw04.SmallProducts", spec := "smallProducts", unfollowed := true, recurses := true, apart := false, narrowed := true }
def SmallProductsUptoSaid : Prop := smallProductsUptoRow.holds Try.pinned (OpenSpec.upto smallProductsSpec)

/-- 'sodalitylaw04.SmallSums', WHERE WHAT IT READS IS OF BULK AT MOST 1048576: true; the input reads as it did. -/
def smallSumsUptoRow : OpenClaim := { program := "ytjaaldkkfdfkcaa", sum := "412f2ce6c165679e3c4faff2f63e4f308a9de31b22dc449657c1c98a14b40b0a", func := "sodality/sodalitylaw04.SmallSums", spec := "smallSums", unfollowed := true, recurses := true, apart := false, narrowed := true }
def SmallSumsUptoSaid : Prop := smallSumsUptoRow.holds Try.pinned (OpenSpec.upto smallSumsSpec)

/-- 'sodalitylaw04.SmallShift', WHERE WHAT IT READS IS OF BULK AT MOST 1048576: true; the input reads as it did. -/
def smallShiftUptoRow : OpenClaim := { program := "ytjaaldkkfdfkcaa", sum := "412f2ce6c165679e3c4faff2f63e4f308a9de31b22dc449657c1c98a14b40b0a", func := "sodality/sodalitylaw04.SmallShift", spec := "smallShift", unfollowed := true, recurses := true, apart := false, narrowed := true }
def SmallShiftUptoSaid : Prop := smallShiftUptoRow.holds Try.pinned (OpenSpec.upto smallShiftSpec)

/-- 'sodalitylaw04.SmallScalars', WHERE WHAT IT READS IS OF BULK AT MOST 1048576: true; the input reads as it did. -/
def smallScalarsUptoRow : OpenClaim := { program := "ytjaaldkkfdfkcaa", sum := "412f2ce6c165679e3c4faff2f63e4f308a9de31b22dc449657c1c98a14b40b0a", func := "sodality/sodalitylaw04.SmallScalars", spec := "smallScalars", unfollowed := true, recurses := true, apart := false, narrowed := true }
def SmallScalarsUptoSaid : Prop := smallScalarsUptoRow.holds Try.pinned (OpenSpec.upto smallScalarsSpec)

end Rows
end Go.Proofs.Ytjaaldkkfdfkcaa
