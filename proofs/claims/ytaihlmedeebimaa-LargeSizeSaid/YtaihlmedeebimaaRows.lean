/-
  No cell of these rows narrows 'for every input' (looked for: loops, veiled, ifaces, maps, wideKeys, modest, calm, conditions, laid).
  DERIVED. THE GIVEN ROWS OF THIS SEAT. 6 by the template 'for every input the law returns true; each argument reads behind the call as it read before'; 0 by the template 'total and deterministic' (their statements: YtaihlmedeebimaaTotals.lean).
  GIVEN WITH THE SEED: the statements are not yours to turn. If you find one false, say at which input.
  Laid BY PROGRAM, IN A SANDBOX (cutbox-rows.mjs): the forced cells as the released guide's own fill.sh prints them over the translation 8a1618b33fd59e50… (all of the seat's roots in one cut). By AI agents, Wed Nov 11 2026. No macro, syntax, notation, axiom, sorry.
-/
import Derived.Test.YtaihlmedeebimaaChecked
import GoSem.Claim
import GoSem.ClaimJoined
import GoSem.ClaimMapViews
import Derived.JoinedTies
import Derived.KernelRfl
namespace Go.Proofs.Ytaihlmedeebimaa
/- THE CELL 'sum', in the pinned program and in every row, IS THE sha256 OF THE DUMP (.gsa) THAT YtaihlmedeebimaaProg.lean LOADS. Nothing in Lean hashes anything: it is a label: what it is worth is what the hold of that sum in a sandbox is worth. -/
noncomputable def Try.pinned : Pinned := { name := "ytaihlmedeebimaa", sum := "8a1618b33fd59e508f143c5e20d9c831a70fa8d74eb3affb7ace9e2b32afb117", checked := Try.checked }
namespace Rows
def none {H : Type} : Left H := { results := [], args := [] }

/-- 'sodalitylaw07.LargeTells': WHATEVER THE INPUT: true; the input reads as it did. -/
def largeTellsSpec : ChangeSpec := { name := "largeTells", fn := fun _ => fun
  | [d1, d2] => { results := [.lit (.bool true)], args := [d1, d2] }
  | _ => none }
def largeTellsRow : OpenClaim := { program := "ytaihlmedeebimaa", sum := "8a1618b33fd59e508f143c5e20d9c831a70fa8d74eb3affb7ace9e2b32afb117", func := "sodality/sodalitylaw07.LargeTells", spec := "largeTells", unfollowed := true, recurses := true, apart := false }
def LargeTellsSaid : Prop := largeTellsRow.holds Try.pinned (OpenSpec.ofChange largeTellsSpec)

/-- ITS FALSE NEIGHBOUR: 'it returns false'. Refute it at one input. -/
def largeTellsWrong : ChangeSpec := { name := "largeTells", fn := fun _ => fun
  | [d1, d2] => { results := [.lit (.bool false)], args := [d1, d2] }
  | _ => none }
def LargeTellsWrongFalsely : Prop := largeTellsRow.holds Try.pinned (OpenSpec.ofChange largeTellsWrong)

/-- 'sodalitylaw07.LargeBack': WHATEVER THE INPUT: true; the input reads as it did. -/
def largeBackSpec : ChangeSpec := { name := "largeBack", fn := fun _ => fun
  | [d] => { results := [.lit (.bool true)], args := [d] }
  | _ => none }
def largeBackRow : OpenClaim := { program := "ytaihlmedeebimaa", sum := "8a1618b33fd59e508f143c5e20d9c831a70fa8d74eb3affb7ace9e2b32afb117", func := "sodality/sodalitylaw07.LargeBack", spec := "largeBack", unfollowed := true, recurses := true, apart := false }
def LargeBackSaid : Prop := largeBackRow.holds Try.pinned (OpenSpec.ofChange largeBackSpec)

/-- ITS FALSE NEIGHBOUR: 'it returns false'. Refute it at one input. -/
def largeBackWrong : ChangeSpec := { name := "largeBack", fn := fun _ => fun
  | [d] => { results := [.lit (.bool false)], args := [d] }
  | _ => none }
def LargeBackWrongFalsely : Prop := largeBackRow.holds Try.pinned (OpenSpec.ofChange largeBackWrong)

/-- 'sodalitylaw07.LargeProducts': WHATEVER THE INPUT: true; the input reads as it did. -/
def largeProductsSpec : ChangeSpec := { name := "largeProducts", fn := fun _ => fun
  | [d1, d2] => { results := [.lit (.bool true)], args := [d1, d2] }
  | _ => none }
def largeProductsRow : OpenClaim := { program := "ytaihlmedeebimaa", sum := "8a1618b33fd59e508f143c5e20d9c831a70fa8d74eb3affb7ace9e2b32afb117", func := "sodality/sodalitylaw07.LargeProducts", spec := "largeProducts", unfollowed := true, recurses := true, apart := false }
def LargeProductsSaid : Prop := largeProductsRow.holds Try.pinned (OpenSpec.ofChange largeProductsSpec)

/-- ITS FALSE NEIGHBOUR: 'it returns false'. Refute it at one input. -/
def largeProductsWrong : ChangeSpec := { name := "largeProducts", fn := fun _ => fun
  | [d1, d2] => { results := [.lit (.bool false)], args := [d1, d2] }
  | _ => none }
def LargeProductsWrongFalsely : Prop := largeProductsRow.holds Try.pinned (OpenSpec.ofChange largeProductsWrong)

/-- 'sodalitylaw07.LargeSums': WHATEVER THE INPUT: true; the input reads as it did. -/
def largeSumsSpec : ChangeSpec := { name := "largeSums", fn := fun _ => fun
  | [d1, d2] => { results := [.lit (.bool true)], args := [d1, d2] }
  | _ => none }
def largeSumsRow : OpenClaim := { program := "ytaihlmedeebimaa", sum := "8a1618b33fd59e508f143c5e20d9c831a70fa8d74eb3affb7ace9e2b32afb117", func := "sodality/sodalitylaw07.LargeSums", spec := "largeSums", unfollowed := true, recurses := true, apart := false }
def LargeSumsSaid : Prop := largeSumsRow.holds Try.pinned (OpenSpec.ofChange largeSumsSpec)

/-- ITS FALSE NEIGHBOUR: 'it returns false'. Refute it at one input. -/
def largeSumsWrong : ChangeSpec := { name := "largeSums", fn := fun _ => fun
  | [d1, d2] => { results := [.lit (.bool false)], args := [d1, d2] }
  | _ => none }
def LargeSumsWrongFalsely : Prop := largeSumsRow.holds Try.pinned (OpenSpec.ofChange largeSumsWrong)

/-- 'sodalitylaw07.LargeSize': WHATEVER THE INPUT: true; the input reads as it did. -/
def largeSizeSpec : ChangeSpec := { name := "largeSize", fn := fun _ => fun
  | [d] => { results := [.lit (.bool true)], args := [d] }
  | _ => none }
def largeSizeRow : OpenClaim := { program := "ytaihlmedeebimaa", sum := "8a1618b33fd59e508f143c5e20d9c831a70fa8d74eb3affb7ace9e2b32afb117", func := "sodality/sodalitylaw07.LargeSize", spec := "largeSize", unfollowed := true, recurses := true, apart := false }
def LargeSizeSaid : Prop := largeSizeRow.holds Try.pinned (OpenSpec.ofChange largeSizeSpec)

/-- ITS FALSE NEIGHBOUR: 'it returns false'. Refute it at one input. -/
def largeSizeWrong : ChangeSpec := { name := "largeSize", fn := fun _ => fun
  | [d] => { results := [.lit (.bool false)], args := [d] }
  | _ => none }
def LargeSizeWrongFalsely : Prop := largeSizeRow.holds Try.pinned (OpenSpec.ofChange largeSizeWrong)

/-- 'sodalitylaw07.LargeShift': WHATEVER THE INPUT: true; the input reads as it did. -/
def largeShiftSpec : ChangeSpec := { name := "largeShift", fn := fun _ => fun
  | [d1, d2] => { results := [.lit (.bool true)], args := [d1, d2] }
  | _ => none }
def largeShiftRow : OpenClaim := { program := "ytaihlmedeebimaa", sum := "8a1618b33fd59e508f143c5e20d9c831a70fa8d74eb3affb7ace9e2b32afb117", func := "sodality/sodalitylaw07.LargeShift", spec := "largeShift", unfollowed := true, recurses := true, apart := false }
def LargeShiftSaid : Prop := largeShiftRow.holds Try.pinned (OpenSpec.ofChange largeShiftSpec)

/-- ITS FALSE NEIGHBOUR: 'it returns false'. Refute it at one input. -/
def largeShiftWrong : ChangeSpec := { name := "largeShift", fn := fun _ => fun
  | [d1, d2] => { results := [.lit (.bool false)], args := [d1, d2] }
  | _ => none }
def LargeShiftWrongFalsely : Prop := largeShiftRow.holds Try.pinned (OpenSpec.ofChange largeShiftWrong)

/- THE SECOND FORM. 'bulk': how many values and letters a reading holds, each counted each time it is reached (what is shared counts as often as it is met; a slice's spare places count too). A statement '..UptoSaid' is the law's where the arguments, and the package variables that the reading takes, are together of bulk at most 1048576: NARROWER than '..Said'. Prove '..Said' where nothing that the law and all that it calls make is longer than what came in: it says more and counts as full. Else prove '..UptoSaid'. A law counts once. -/
mutual
def uptoBulk {H : Type} : DataW H → Nat
  | .lit (.string bytes) => bytes.length + 1
  | .lit _ => 1
  | .nil => 1
  | .ptr d => uptoBulk d + 1
  | .slice elems spare => uptoBulkAll elems + uptoBulkAll spare + 1
  | .agg parts => uptoBulkAll parts + 1
  | .iface _ d => uptoBulk d + 1
  | .map entries => uptoBulkEntries entries + 1
  | .held _ => 1
def uptoBulkAll {H : Type} : List (DataW H) → Nat
  | [] => 0
  | d :: r => uptoBulk d + uptoBulkAll r
def uptoBulkEntries {H : Type} : List (Lit × DataW H) → Nat
  | [] => 0
  | x :: r => uptoBulkEntry x + uptoBulkEntries r
def uptoBulkEntry {H : Type} : Lit × DataW H → Nat
  | (.string bytes, d) => bytes.length + uptoBulk d + 1
  | (_, d) => uptoBulk d + 1
 end
def uptoSmall : (H : Type) → List (DataW H) → Bool := fun _ ds => decide (uptoBulkAll ds ≤ 1048576)
def OpenSpec.upto (s : _root_.Go.ChangeSpec) : _root_.Go.OpenSpec := { _root_.Go.OpenSpec.ofChange s with cond := some uptoSmall }

/-- 'sodalitylaw07.LargeTells', WHERE WHAT IT READS IS OF BULK AT MOST 1048576: true; the input reads as it did. -/
def largeTellsUptoRow : OpenClaim := { program := "ytaihlmedeebimaa", sum := "8a1618b33fd59e508f143c5e20d9c831a70fa8d74eb3affb7ace9e2b32afb117", func := "sodality/sodalitylaw07.LargeTells", spec := "largeTells", unfollowed := true, recurses := true, apart := false, narrowed := true }
def LargeTellsUptoSaid : Prop := largeTellsUptoRow.holds Try.pinned (OpenSpec.upto largeTellsSpec)

/-- 'sodalitylaw07.LargeBack', WHERE WHAT IT READS IS OF BULK AT MOST 1048576: true; the input reads as it did. -/
def largeBackUptoRow : OpenClaim := { program := "ytaihlmedeebimaa", sum := "8a1618b33fd59e508f143c5e20d9c831a70fa8d74eb3affb7ace9e2b32afb117", func := "sodality/sodalitylaw07.LargeBack", spec := "largeBack", unfollowed := true, recurses := true, apart := false, narrowed := true }
def LargeBackUptoSaid : Prop := largeBackUptoRow.holds Try.pinned (OpenSpec.upto largeBackSpec)

/-- 'sodalitylaw07.LargeProducts', WHERE WHAT IT READS IS OF BULK AT MOST 1048576: true; the input reads as it did. -/
def largeProductsUptoRow : OpenClaim := { program := "ytaihlmedeebimaa", sum := "8a1618b33fd59e508f143c5e20d9c831a70fa8d74eb3affb7ace9e2b32afb117", func := "sodality/sodalitylaw07.LargeProducts", spec := "largeProducts", unfollowed := true, recurses := true, apart := false, narrowed := true }
def LargeProductsUptoSaid : Prop := largeProductsUptoRow.holds Try.pinned (OpenSpec.upto largeProductsSpec)

/-- 'sodalitylaw07.LargeSums', WHERE WHAT IT READS IS OF BULK AT MOST 1048576: true; the input reads as it did. -/
def largeSumsUptoRow : OpenClaim := { program := "ytaihlmedeebimaa", sum := "8a1618b33fd59e508f143c5e20d9c831a70fa8d74eb3affb7ace9e2b32afb117", func := "sodality/sodalitylaw07.LargeSums", spec := "largeSums", unfollowed := true, recurses := true, apart := false, narrowed := true }
def LargeSumsUptoSaid : Prop := largeSumsUptoRow.holds Try.pinned (OpenSpec.upto largeSumsSpec)

/-- 'sodalitylaw07.LargeSize', WHERE WHAT IT READS IS OF BULK AT MOST 1048576: true; the input reads as it did. -/
def largeSizeUptoRow : OpenClaim := { program := "ytaihlmedeebimaa", sum := "8a1618b33fd59e508f143c5e20d9c831a70fa8d74eb3affb7ace9e2b32afb117", func := "sodality/sodalitylaw07.LargeSize", spec := "largeSize", unfollowed := true, recurses := true, apart := false, narrowed := true }
def LargeSizeUptoSaid : Prop := largeSizeUptoRow.holds Try.pinned (OpenSpec.upto largeSizeSpec)

/-- 'sodalitylaw07.LargeShift', WHERE WHAT IT READS IS OF BULK AT MOST 1048576: true; the input reads as it did. -/
def largeShiftUptoRow : OpenClaim := { program := "ytaihlmedeebimaa", sum := "8a1618b33fd59e508f143c5e20d9c831a70fa8d74eb3affb7ace9e2b32afb117", func := "sodality/sodalitylaw07.LargeShift", spec := "largeShift", unfollowed := true, recurses := true, apart := false, narrowed := true }
def LargeShiftUptoSaid : Prop := largeShiftUptoRow.holds Try.pinned (OpenSpec.upto largeShiftSpec)

end Rows
end Go.Proofs.Ytaihlmedeebimaa
