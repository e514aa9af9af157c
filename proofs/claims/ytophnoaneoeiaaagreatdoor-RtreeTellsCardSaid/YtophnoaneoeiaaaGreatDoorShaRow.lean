/- What the rows' proofs share: the tables out of the laid list, a world for the witness, slices of bytes that came in. -/
import Derived.Test.YtophnoaneoeiaaaGreatDoorShaM2
import Derived.Test.YtophnoaneoeiaaaGreatDoorCards
import Derived.Test.YtophnoaneoeiaaaGreatDoorTie
import Derived.ProofKit
import Derived.OpenShut
import Derived.ShutString
import Derived.ChangeOld
import Derived.Below
import Derived.Deep.DeepHandedRow
import Derived.Lib.LaidTab
import Derived.LaidSub
namespace Go.Proofs.YtophnoaneoeiaaaGreatDoor.Sha
set_option linter.all false
open Go.ChangeShapes Go.WideShapes Go.ChangeAt Go.RowKit

theorem own : ownKnob Tryz.prog.godebug = none := by kernel_rfl
theorem laidOut : laidOutB Tryz.prog = true := by kernel_rfl
def laidList : List (String × DataW Unit) := [("sodality/sha2.firstState", Rows.laid_sodality_sha2_firstState), ("sodality/sha2.roundConstants", Rows.laid_sodality_sha2_roundConstants)]

theorem gFirst : Tryz.prog.globalNamed "sodality/sha2.firstState" = some 0 := by kernel_rfl
theorem gRounds : Tryz.prog.globalNamed "sodality/sha2.roundConstants" = some 1 := by kernel_rfl

theorem tabAt_of_is {W : World} {name : String} {g : Nat} {k : IntKind} {l : List Nat} (hg : Tryz.prog.globalNamed name = some g) (h : Lib.TabIs Tryz.prog W name k (l.map fun x => ((x : Nat) : Int))) : TabAt W g k l := by
  unfold Lib.TabIs World.var? at h
  rw [hg] at h
  simp only [Option.bind_some] at h
  split at h
  · rename_i cs t fr hb
    refine ⟨t, fr, ?_⟩
    rw [hb]
    have e : cs = numsOf k l := by
      have := Option.some.inj h
      rw [this]; simp [numsOf, List.map_map, Function.comp_def]
    rw [e]
  · cases h

theorem tables_of {W : World} (h : laidMetH Tryz.prog laidList W) (hG : 6 ≤ W.heap.size) : Tables W := by
  have h0 : laidMet Tryz.prog laidList W := h
  have h1 : laidMet Tryz.prog [("sodality/sha2.firstState", Rows.laid_sodality_sha2_firstState)] W := h0.filter (fun x => x.1 == "sodality/sha2.firstState")
  have h2 : laidMet Tryz.prog [("sodality/sha2.roundConstants", Rows.laid_sodality_sha2_roundConstants)] W := h0.filter (fun x => x.1 == "sodality/sha2.roundConstants")
  exact ⟨hG, tabAt_of_is gFirst (Lib.tabIs_of_head (rest := []) gFirst (t := 116) (by kernel_rfl) Tryz.underlying116 Tryz.underlying114 (by kernel_rfl) (by kernel_rfl) h1),
    tabAt_of_is gRounds (Lib.tabIs_of_head (rest := []) gRounds (t := 138) (by kernel_rfl) Tryz.underlying138 Tryz.underlying114 (by kernel_rfl) (by kernel_rfl) h2)⟩

/-- a world for the witness: the settled one, the tables as their initialisers lay them -/
noncomputable def laidWorld (os : Os) : World :=
  let w := World.holding Tryz.prog os ⟨#[], #[], []⟩
  { w with heap := (w.heap.modify 0 fun | .cells _ t fr => .cells (numsOf .u32 firstT) t fr | o => o).modify 1 fun | .cells _ t fr => .cells (numsOf .u32 consT) t fr | o => o }
theorem laid_met (os : Os) (args : Array Value) : laidMet Tryz.prog laidList ((laidWorld os).forCall (fun _ _ => 0) ⟨#[], args, []⟩).memory :=
  laidMet_of_run' 8 (by kernel_rfl) (by kernel_rfl)

/-- a slice of bytes that came in -/
def IsRow (k : IntKind) (w : World) (a : Option Addr) (len cap : Nat) (zs : List Int) : Prop :=
  (a = none ∧ len = 0 ∧ cap = 0 ∧ zs = []) ∨
  ∃ x, a = some x ∧ len ≤ cap ∧ cap ≤ maxLen ∧ zs.length = cap ∧ (∀ i, i < zs.length → w.cell? (x.add i) = some (.int k (zs.getD i 0))) ∧ ∀ n ∈ zs, (Lit.int k n).wf = true
def bytesOf (zs : List Int) (len : Nat) : List Nat := (zs.take len).map Int.toNat
theorem rd_of_row {w : World} {a : Option Addr} {len cap : Nat} {zs : List Int} (h : IsRow .u8 w a len cap zs) :
    Rd w w.heap.size a (bytesOf zs len) ∧ (bytesOf zs len).length = len ∧ len ≤ cap ∧ cap ≤ 9223372036854775807 ∧ (a = none → cap = 0) := by
  rcases h with ⟨rfl, rfl, rfl, rfl⟩ | ⟨x, rfl, h1, h2, h3, h4, h5⟩
  · exact ⟨Rd.nil _ _ _, rfl, by omega, by omega, fun _ => rfl⟩
  · have hlen : (bytesOf zs len).length = len := by simp [bytesOf]; omega
    have hb : ∀ n ∈ zs, 0 ≤ n ∧ n < 256 := fun n hn => by
      have := h5 n hn
      simp [Lit.wf, IntKind.min, IntKind.max, IntKind.bits, IntKind.signed] at this
      omega
    have hat : ∀ j, j < len → zs.getD j 0 ∈ zs := fun j hj => by
      rw [List.getD_eq_getElem?_getD, List.getElem?_eq_getElem (by omega)]; exact List.getElem_mem _
    have hg : ∀ j, j < len → gt (bytesOf zs len) j = (zs.getD j 0).toNat := fun j hj => by
      unfold gt bytesOf
      rw [List.getD_eq_getElem?_getD, List.getD_eq_getElem?_getD, List.getElem?_map, List.getElem?_take_of_lt hj, List.getElem?_eq_getElem (by omega)]; rfl
    refine ⟨⟨fun j => ?_, fun hn => ⟨x, rfl, ?_, fun j hj => ?_⟩⟩, hlen, h1, by unfold maxLen at h2; omega, fun e => by cases e⟩
    · by_cases hj : j < len
      · rw [hg j hj]; have := hb _ (hat j hj); omega
      · rw [gt_ge _ _ (by omega)]; omega
    · rw [hlen] at hn
      have := h4 0 (by omega)
      have hlt := block_lt_of_cell this
      unfold Addr.add at hlt
      simpa using hlt
    · rw [hlen] at hj
      rw [h4 j (by omega), hg j hj]
      have := hb _ (hat j hj)
      congr 2
      omega

theorem byte_of_wf {x : Int} (h : (Lit.int .u8 x).wf = true) : ∃ k : Nat, x = k ∧ k < 256 := by
  simp [Lit.wf, IntKind.min, IntKind.max, IntKind.bits, IntKind.signed] at h
  exact ⟨x.toNat, by omega, by omega⟩

end Go.Proofs.YtophnoaneoeiaaaGreatDoor.Sha
