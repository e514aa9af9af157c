/-
  No cell of these rows narrows 'for every input' (looked for: loops, veiled, ifaces, maps, wideKeys, modest, calm, conditions, laid).
  DERIVED. THE GIVEN ROWS OF THIS SEAT. 5 by the template 'for every input the law returns true; each argument reads behind the call as it read before'; 0 by the template 'total and deterministic' (their statements: YtlacppgcdpgmoaaTotals.lean).
  GIVEN WITH THE SEED: the statements are not yours to turn. If you find one false, say at which input.
  Laid BY PROGRAM, IN A SANDBOX (cutbox-rows.mjs): the forced cells as the released guide's own fill.sh prints them over the translation 43cb2ecf2768d4af… (all of the seat's roots in one cut). By AI agents, Wed Nov 11 2026. No macro, syntax, notation, axiom, sorry.
-/
import Derived.Test.YtlacppgcdpgmoaaChecked
import GoSem.Claim
import GoSem.ClaimJoined
import GoSem.ClaimMapViews
import Derived.JoinedTies
import Derived.KernelRfl
namespace Go.Proofs.Ytlacppgcdpgmoaa
/- THE CELL 'sum', in the pinned program and in every row, IS THE sha256 OF THE DUMP (.gsa) THAT YtlacppgcdpgmoaaProg.lean LOADS. Nothing in Lean hashes anything: it is a label: what it is worth is what the hold of that sum in a sandbox is worth. -/
noncomputable def Try.pinned : Pinned := { name := "ytlacppgcdpgmoaa", sum := "43cb2ecf2768d4afffafeac1724d2a064cc82c57a3f1d292ca5fd382ed22269e", checked := Try.checked }
namespace Rows
def none {H : Type} : Left H := { results := [], args := [] }

/-- 'sodalitylaw08.RoundTells': WHATEVER THE INPUT: true; the input reads as it did. -/
def roundTellsSpec : ChangeSpec := { name := "roundTells", fn := fun _ => fun
  | [d1, d2, d3] => { results := [.lit (.bool true)], args := [d1, d2, d3] }
  | _ => none }
def roundTellsRow : OpenClaim := { program := "ytlacppgcdpgmoaa", sum := "43cb2ecf2768d4afffafeac1724d2a064cc82c57a3f1d292ca5fd382ed22269e", func := "sodality/sodalitylaw08.RoundTells", spec := "roundTells", unfollowed := true, recurses := true, apart := false }
def RoundTellsSaid : Prop := roundTellsRow.holds Try.pinned (OpenSpec.ofChange roundTellsSpec)

/-- ITS FALSE NEIGHBOUR: 'it returns false'. Refute it at one input. -/
def roundTellsWrong : ChangeSpec := { name := "roundTells", fn := fun _ => fun
  | [d1, d2, d3] => { results := [.lit (.bool false)], args := [d1, d2, d3] }
  | _ => none }
def RoundTellsWrongFalsely : Prop := roundTellsRow.holds Try.pinned (OpenSpec.ofChange roundTellsWrong)

/-- 'sodalitylaw08.RoundMakes': WHATEVER THE INPUT: true; the input reads as it did. -/
def roundMakesSpec : ChangeSpec := { name := "roundMakes", fn := fun _ => fun
  | [d] => { results := [.lit (.bool true)], args := [d] }
  | _ => none }
def roundMakesRow : OpenClaim := { program := "ytlacppgcdpgmoaa", sum := "43cb2ecf2768d4afffafeac1724d2a064cc82c57a3f1d292ca5fd382ed22269e", func := "sodality/sodalitylaw08.RoundMakes", spec := "roundMakes", unfollowed := true, recurses := true, apart := false }
def RoundMakesSaid : Prop := roundMakesRow.holds Try.pinned (OpenSpec.ofChange roundMakesSpec)

/-- ITS FALSE NEIGHBOUR: 'it returns false'. Refute it at one input. -/
def roundMakesWrong : ChangeSpec := { name := "roundMakes", fn := fun _ => fun
  | [d] => { results := [.lit (.bool false)], args := [d] }
  | _ => none }
def RoundMakesWrongFalsely : Prop := roundMakesRow.holds Try.pinned (OpenSpec.ofChange roundMakesWrong)

/-- 'sodalitylaw08.RoundHints': WHATEVER THE INPUT: true; the input reads as it did. -/
def roundHintsSpec : ChangeSpec := { name := "roundHints", fn := fun _ => fun
  | [d1, d2] => { results := [.lit (.bool true)], args := [d1, d2] }
  | _ => none }
def roundHintsRow : OpenClaim := { program := "ytlacppgcdpgmoaa", sum := "43cb2ecf2768d4afffafeac1724d2a064cc82c57a3f1d292ca5fd382ed22269e", func := "sodality/sodalitylaw08.RoundHints", spec := "roundHints", unfollowed := true, recurses := true, apart := false }
def RoundHintsSaid : Prop := roundHintsRow.holds Try.pinned (OpenSpec.ofChange roundHintsSpec)

/-- ITS FALSE NEIGHBOUR: 'it returns false'. Refute it at one input. -/
def roundHintsWrong : ChangeSpec := { name := "roundHints", fn := fun _ => fun
  | [d1, d2] => { results := [.lit (.bool false)], args := [d1, d2] }
  | _ => none }
def RoundHintsWrongFalsely : Prop := roundHintsRow.holds Try.pinned (OpenSpec.ofChange roundHintsWrong)

/-- 'sodalitylaw08.RoundNear': WHATEVER THE INPUT: true; the input reads as it did. -/
def roundNearSpec : ChangeSpec := { name := "roundNear", fn := fun _ => fun
  | [d] => { results := [.lit (.bool true)], args := [d] }
  | _ => none }
def roundNearRow : OpenClaim := { program := "ytlacppgcdpgmoaa", sum := "43cb2ecf2768d4afffafeac1724d2a064cc82c57a3f1d292ca5fd382ed22269e", func := "sodality/sodalitylaw08.RoundNear", spec := "roundNear", unfollowed := true, recurses := true, apart := false }
def RoundNearSaid : Prop := roundNearRow.holds Try.pinned (OpenSpec.ofChange roundNearSpec)

/-- ITS FALSE NEIGHBOUR: 'it returns false'. Refute it at one input. -/
def roundNearWrong : ChangeSpec := { name := "roundNear", fn := fun _ => fun
  | [d] => { results := [.lit (.bool false)], args := [d] }
  | _ => none }
def RoundNearWrongFalsely : Prop := roundNearRow.holds Try.pinned (OpenSpec.ofChange roundNearWrong)

/-- 'sodalitylaw08.RoundSteps': WHATEVER THE INPUT: true; the input reads as it did. -/
def roundStepsSpec : ChangeSpec := { name := "roundSteps", fn := fun _ => fun
  | [d] => { results := [.lit (.bool true)], args := [d] }
  | _ => none }
def roundStepsRow : OpenClaim := { program := "ytlacppgcdpgmoaa", sum := "43cb2ecf2768d4afffafeac1724d2a064cc82c57a3f1d292ca5fd382ed22269e", func := "sodality/sodalitylaw08.RoundSteps", spec := "roundSteps", unfollowed := true, recurses := true, apart := false }
def RoundStepsSaid : Prop := roundStepsRow.holds Try.pinned (OpenSpec.ofChange roundStepsSpec)

/-- ITS FALSE NEIGHBOUR: 'it returns false'. Refute it at one input. -/
def roundStepsWrong : ChangeSpec := { name := "roundSteps", fn := fun _ => fun
  | [d] => { results := [.lit (.bool false)], args := [d] }
  | _ => none }
def RoundStepsWrongFalsely : Prop := roundStepsRow.holds Try.pinned (OpenSpec.ofChange roundStepsWrong)

/- THE SECOND FORM. 'bulk': how many values and letters a reading holds, each counted each time it is reached (what is shared counts as often as it is met; a slice's spare places count too). A statement '..UptoSaid' is the law's where the arguments, and the package variables that the reading takes, are together of bulk at most 1048576: NARROWER than '..Said'. Prove '..Said' where nothing that the law and all that it calls make is longer than what came in: it says more and counts as full. Else prove '..UptoSaid'. A law counts once. -/
mutual
def uptoBulk {H : Type} : DataW H → Nat
  | .lit (.string bytes) => bytes.length + 1
  | .lit _ => 1
  | .nil => 1
  | .ptr d => uptoBulk d + 1
  | .slice elems spare => uptoBulkAll elems + uptoBulkAll spare + 1
  | .agg parts => uptoBulkAll parts + 1
  | .iface _ d => uptoBulk d + 1
  | .map entries => uptoBulkEntries entries + 1
  | .held _ => 1
def uptoBulkAll {H : Type} : List (DataW H) → Nat
  | [] => 0
  | d :: r => uptoBulk d + uptoBulkAll r
def uptoBulkEntries {H : Type} : List (Lit × DataW H) → Nat
  | [] => 0
  | x :: r => uptoBulkEntry x + uptoBulkEntries r
def uptoBulkEntry {H : Type} : Lit × DataW H → Nat
  | (.string bytes, d) => bytes.length + uptoBulk d + 1
  | (_, d) => uptoBulk d + 1
 end
def uptoSmall : (H : Type) → List (DataW H) → Bool := fun _ ds => decide (uptoBulkAll ds ≤ 1048576)
def OpenSpec.upto (s : _root_.Go.ChangeSpec) : _root_.Go.OpenSpec := { _root_.Go.OpenSpec.ofChange s with cond := some uptoSmall }

/-- 'sodalitylaw08.RoundTells', WHERE WHAT IT READS IS OF BULK AT MOST 1048576: true; the input reads as it did. -/
def roundTellsUptoRow : OpenClaim := { program := "ytlacppgcdpgmoaa", sum := "43cb2ecf2768d4afffafeac1724d2a064cc82c57a3f1d292ca5fd382ed22269e", func := "sodality/sodalitylaw08.RoundTells", spec := "roundTells", unfollowed := true, recurses := true, apart := false, narrowed := true }
def RoundTellsUptoSaid : Prop := roundTellsUptoRow.holds Try.pinned (OpenSpec.upto roundTellsSpec)

/-- 'sodalitylaw08.RoundMakes', WHERE WHAT IT READS IS OF BULK AT MOST 1048576: true; the input reads as it did. -/
def roundMakesUptoRow : OpenClaim := { program := "ytlacppgcdpgmoaa", sum := "43cb2ecf2768d4afffafeac1724d2a064cc82c57a3f1d292ca5fd382ed22269e", func := "sodality/sodalitylaw08.RoundMakes", spec := "roundMakes", unfollowed := true, recurses := true, apart := false, narrowed := true }
def RoundMakesUptoSaid : Prop := roundMakesUptoRow.holds Try.pinned (OpenSpec.upto roundMakesSpec)

/-- 'sodalitylaw08.RoundHints', WHERE WHAT IT READS IS OF BULK AT MOST 1048576: true; the input reads as it did. -/
def roundHintsUptoRow : OpenClaim := { program := "ytlacppgcdpgmoaa", sum := "43cb2ecf2768d4afffafeac1724d2a064cc82c57a3f1d292ca5fd382ed22269e", func := "sodality/sodalitylaw08.RoundHints", spec := "roundHints", unfollowed := true, recurses := true, apart := false, narrowed := true }
def RoundHintsUptoSaid : Prop := roundHintsUptoRow.holds Try.pinned (OpenSpec.upto roundHintsSpec)

/-- 'sodalitylaw08.RoundNear', WHERE WHAT IT READS IS OF BULK AT MOST 1048576: true; the input reads as it did. -/
def roundNearUptoRow : OpenClaim := { program := "ytlacppgcdpgmoaa", sum := "43cb2ecf2768d4afffafeac1724d2a064cc82c57a3f1d292ca5fd382ed22269e", func := "sodality/sodalitylaw08.RoundNear", spec := "roundNear", unfollowed := true, recurses := true, apart := false, narrowed := true }
def RoundNearUptoSaid : Prop := roundNearUptoRow.holds Try.pinned (OpenSpec.upto roundNearSpec)

/-- 'sodalitylaw08.RoundSteps', WHERE WHAT IT READS IS OF BULK AT MOST 1048576: true; the input reads as it did. -/
def roundStepsUptoRow : OpenClaim := { program := "ytlacppgcdpgmoaa", sum := "43cb2ecf2768d4afffafeac1724d2a064cc82c57a3f1d292ca5fd382ed22269e", func := "sodality/sodalitylaw08.RoundSteps", spec := "roundSteps", unfollowed := true, recurses := true, apart := false, narrowed := true }
def RoundStepsUptoSaid : Prop := roundStepsUptoRow.holds Try.pinned (OpenSpec.upto roundStepsSpec)

end Rows
end Go.Proofs.Ytlacppgcdpgmoaa
