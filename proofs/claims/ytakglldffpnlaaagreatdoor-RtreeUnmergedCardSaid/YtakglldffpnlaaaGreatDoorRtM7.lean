/- What the rows' proofs share: the tables out of the laid list, a world for the witness, slices of bytes that came in. What the rows' proofs share: the table of package math/bits out of the laid list, a world for the witness. What the rows' proofs share: the package's table out of the laid list, a world for the witness, slices of bytes that came in. What the rows' proofs share: the tables of all packages out of the laid list, a world for the witness, trees that came in. -/
import Derived.Test.YtakglldffpnlaaaGreatDoorShaM2
import Derived.Test.YtakglldffpnlaaaGreatDoorCards
import Derived.Test.YtakglldffpnlaaaGreatDoorTie
import Derived.ProofKit
import Derived.OpenShut
import Derived.ShutString
import Derived.ChangeOld
import Derived.Below
import Derived.Deep.DeepHandedRow
import Derived.Lib.LaidTab
import Derived.LaidSub
import Derived.Test.YtakglldffpnlaaaGreatDoorSpM3
import Derived.Test.YtakglldffpnlaaaGreatDoorWrM2
import Derived.Lib.LaidU8
import Derived.Deep.Matrix
import Derived.Test.YtakglldffpnlaaaGreatDoorRtGreat
import Derived.Lib.SmallJoins
import Derived.Deep.Slices
import Derived.Deep.Fields
import Derived.ChangeSame
namespace Go.Proofs.YtakglldffpnlaaaGreatDoor.Sha
set_option linter.all false
open Go.ChangeShapes Go.WideShapes Go.ChangeAt Go.RowKit

theorem own : ownKnob Tryz.prog.godebug = none := by kernel_rfl
theorem laidOut : laidOutB Tryz.prog = true := by kernel_rfl
def laidList : List (String × DataW Unit) := [("sodality/sha2.firstState", Rows.laid_sodality_sha2_firstState), ("sodality/sha2.roundConstants", Rows.laid_sodality_sha2_roundConstants)]

theorem gFirst : Tryz.prog.globalNamed "sodality/sha2.firstState" = some 0 := by kernel_rfl
theorem gRounds : Tryz.prog.globalNamed "sodality/sha2.roundConstants" = some 2 := by kernel_rfl

theorem tabAt_of_is {W : World} {name : String} {g : Nat} {k : IntKind} {l : List Nat} (hg : Tryz.prog.globalNamed name = some g) (h : Lib.TabIs Tryz.prog W name k (l.map fun x => ((x : Nat) : Int))) : TabAt W g k l := by
  unfold Lib.TabIs World.var? at h
  rw [hg] at h
  simp only [Option.bind_some] at h
  split at h
  · rename_i cs t fr hb
    refine ⟨t, fr, ?_⟩
    rw [hb]
    have e : cs = numsOf k l := by
      have := Option.some.inj h
      rw [this]; simp [numsOf, List.map_map, Function.comp_def]
    rw [e]
  · cases h

theorem tables_of {W : World} (h : laidMetH Tryz.prog laidList W) (hG : 6 ≤ W.heap.size) : Tables W := by
  have h0 : laidMet Tryz.prog laidList W := h
  have h1 : laidMet Tryz.prog [("sodality/sha2.firstState", Rows.laid_sodality_sha2_firstState)] W := h0.filter (fun x => x.1 == "sodality/sha2.firstState")
  have h2 : laidMet Tryz.prog [("sodality/sha2.roundConstants", Rows.laid_sodality_sha2_roundConstants)] W := h0.filter (fun x => x.1 == "sodality/sha2.roundConstants")
  exact ⟨hG, tabAt_of_is gFirst (Lib.tabIs_of_head (rest := []) gFirst (t := 122) (by kernel_rfl) Tryz.underlying122 Tryz.underlying120 (by kernel_rfl) (by kernel_rfl) h1),
    tabAt_of_is gRounds (Lib.tabIs_of_head (rest := []) gRounds (t := 141) (by kernel_rfl) Tryz.underlying141 Tryz.underlying120 (by kernel_rfl) (by kernel_rfl) h2)⟩

/-- a world for the witness: the settled one, the tables as their initialisers lay them -/
noncomputable def laidWorld (os : Os) : World :=
  let w := World.holding Tryz.prog os ⟨#[], #[], []⟩
  { w with heap := (w.heap.modify 0 fun | .cells _ t fr => .cells (numsOf .u32 firstT) t fr | o => o).modify 2 fun | .cells _ t fr => .cells (numsOf .u32 consT) t fr | o => o }
theorem laid_met (os : Os) (args : Array Value) : laidMet Tryz.prog laidList ((laidWorld os).forCall (fun _ _ => 0) ⟨#[], args, []⟩).memory :=
  laidMet_of_run' 8 (by kernel_rfl) (by kernel_rfl)

/-- a slice of bytes that came in -/
def IsRow (k : IntKind) (w : World) (a : Option Addr) (len cap : Nat) (zs : List Int) : Prop :=
  (a = none ∧ len = 0 ∧ cap = 0 ∧ zs = []) ∨
  ∃ x, a = some x ∧ len ≤ cap ∧ cap ≤ maxLen ∧ zs.length = cap ∧ (∀ i, i < zs.length → w.cell? (x.add i) = some (.int k (zs.getD i 0))) ∧ ∀ n ∈ zs, (Lit.int k n).wf = true
def bytesOf (zs : List Int) (len : Nat) : List Nat := (zs.take len).map Int.toNat
theorem rd_of_row {w : World} {a : Option Addr} {len cap : Nat} {zs : List Int} (h : IsRow .u8 w a len cap zs) :
    Rd w w.heap.size a (bytesOf zs len) ∧ (bytesOf zs len).length = len ∧ len ≤ cap ∧ cap ≤ 9223372036854775807 ∧ (a = none → cap = 0) := by
  rcases h with ⟨rfl, rfl, rfl, rfl⟩ | ⟨x, rfl, h1, h2, h3, h4, h5⟩
  · exact ⟨Rd.nil _ _ _, rfl, by omega, by omega, fun _ => rfl⟩
  · have hlen : (bytesOf zs len).length = len := by simp [bytesOf]; omega
    have hb : ∀ n ∈ zs, 0 ≤ n ∧ n < 256 := fun n hn => by
      have := h5 n hn
      simp [Lit.wf, IntKind.min, IntKind.max, IntKind.bits, IntKind.signed] at this
      omega
    have hat : ∀ j, j < len → zs.getD j 0 ∈ zs := fun j hj => by
      rw [List.getD_eq_getElem?_getD, List.getElem?_eq_getElem (by omega)]; exact List.getElem_mem _
    have hg : ∀ j, j < len → gt (bytesOf zs len) j = (zs.getD j 0).toNat := fun j hj => by
      unfold gt bytesOf
      rw [List.getD_eq_getElem?_getD, List.getD_eq_getElem?_getD, List.getElem?_map, List.getElem?_take_of_lt hj, List.getElem?_eq_getElem (by omega)]; rfl
    refine ⟨⟨fun j => ?_, fun hn => ⟨x, rfl, ?_, fun j hj => ?_⟩⟩, hlen, h1, by unfold maxLen at h2; omega, fun e => by cases e⟩
    · by_cases hj : j < len
      · rw [hg j hj]; have := hb _ (hat j hj); omega
      · rw [gt_ge _ _ (by omega)]; omega
    · rw [hlen] at hn
      have := h4 0 (by omega)
      have hlt := block_lt_of_cell this
      unfold Addr.add at hlt
      simpa using hlt
    · rw [hlen] at hj
      rw [h4 j (by omega), hg j hj]
      have := hb _ (hat j hj)
      congr 2
      omega

theorem byte_of_wf {x : Int} (h : (Lit.int .u8 x).wf = true) : ∃ k : Nat, x = k ∧ k < 256 := by
  simp [Lit.wf, IntKind.min, IntKind.max, IntKind.bits, IntKind.signed] at h
  exact ⟨x.toNat, by omega, by omega⟩

end Go.Proofs.YtakglldffpnlaaaGreatDoor.Sha

namespace Go.Proofs.YtakglldffpnlaaaGreatDoor.Sp
set_option linter.all false
set_option maxRecDepth 100000
open Go.ChangeShapes Go.WideShapes Go.ChangeAt Go.RowKit

theorem own : ownKnob Tryz.prog.godebug = none := by kernel_rfl
theorem laidOut : laidOutB Tryz.prog = true := by kernel_rfl
def laidList : List (String × DataW Unit) := [("math/bits.deBruijn32tab", Rows.laid_math_bits_deBruijn32tab), ("math/bits.deBruijn64tab", Rows.laid_math_bits_deBruijn64tab)]
theorem gTab : Tryz.prog.globalNamed "math/bits.deBruijn64tab" = some 5 := by kernel_rfl
theorem tab_of {W : World} (h : laidMetH Tryz.prog laidList W) : Tab W := by
  have h0 : laidMet Tryz.prog laidList W := h
  have h1 : laidMet Tryz.prog [("math/bits.deBruijn64tab", Rows.laid_math_bits_deBruijn64tab)] W := h0.filter (fun x => x.1 == "math/bits.deBruijn64tab")
  have h2 : Lib.TabIs Tryz.prog W "math/bits.deBruijn64tab" .u8 (bru.map fun x => ((x : Nat) : Int)) := Lib.tabIs_of_head (rest := []) gTab (t := 123) (by kernel_rfl) Tryz.underlying123 Tryz.underlying5 (by kernel_rfl) (by kernel_rfl) h1
  unfold Lib.TabIs World.var? at h2
  rw [gTab] at h2
  simp only [Option.bind_some] at h2
  split at h2
  · rename_i cs t fr hb
    refine ⟨t, fr, ?_⟩
    rw [hb]
    have e : cs = numsOf .u8 bru := by
      have := Option.some.inj h2
      rw [this]; simp [numsOf, List.map_map, Function.comp_def]
    rw [e]
  · cases h2
/-- the smaller table, as its initialiser lays it -/
def bru32 : List Nat := [0, 1, 28, 2, 29, 14, 24, 3, 30, 22, 20, 15, 25, 17, 4, 8, 31, 27, 13, 23, 21, 19, 16, 7, 26, 12, 18, 6, 11, 5, 10, 9]
/-- a world for the witness: the settled one, the tables as their initialisers lay them -/
noncomputable def laidWorld (os : Os) : World :=
  let w := World.holding Tryz.prog os ⟨#[], #[], []⟩
  { w with heap := (w.heap.modify 4 fun | .cells _ t fr => .cells (numsOf .u8 bru32) t fr | o => o).modify 5 fun | .cells _ t fr => .cells (numsOf .u8 bru) t fr | o => o }
theorem laid_met (os : Os) (args : Array Value) : laidMet Tryz.prog laidList ((laidWorld os).forCall (fun _ _ => 0) ⟨#[], args, []⟩).memory :=
  laidMet_of_run' 8 (by kernel_rfl) (by kernel_rfl)
end Go.Proofs.YtakglldffpnlaaaGreatDoor.Sp

namespace Go.Proofs.YtakglldffpnlaaaGreatDoor.Wr
set_option linter.all false
open Go.ChangeShapes Go.WideShapes Go.ChangeAt Go.RowKit

theorem own : ownKnob Tryz.prog.godebug = none := by kernel_rfl
theorem laidOut : laidOutB Tryz.prog = true := by kernel_rfl
def laidList : List (String × DataW Unit) := [("sodality/wire.classes", Rows.laid_sodality_wire_classes)]
theorem gClasses : Tryz.prog.globalNamed "sodality/wire.classes" = some 1 := by kernel_rfl

section
variable {H : Type} {enc : TypeId × Value → H} {P : Program} {w : World} {base : Nat} {sp : Nat → Bool} {held : Bool}
theorem lits_of_struct {fuel : Nat} {t : TypeId} {fs : Array Field} {cs : List Value} {kz : List (IntKind × Int)} {p : List MemPlace} (ht : P.underlying t = some (.struct fs))
    (hf : ∀ (i : Nat) (f : Field), fs[i]? = some f → ∃ k, P.underlying f.type = some (.int k) ∧ f.offset = i ∧ P.cellsOf f.type = 1) (hct : P.cellsOf t = fs.size)
    (h : DataW.trod enc P w base sp held fuel t cs = some (.agg (kz.map fun z => .lit (.int z.1 z.2)), p)) : cs = kz.map fun z => Value.int z.1 z.2 := by
  obtain ⟨xs, n, rfl, hx, hl, hxl, hall⟩ := DataW.trod_struct ht h
  have hxs : xs.map (·.1) = kz.map fun z => (DataW.lit (.int z.1 z.2) : DataW H) := by
    have := congrArg Prod.fst hx
    simpa using this.symm
  have hzl : kz.length = fs.size := by
    have := congrArg List.length hxs
    simp at this
    omega
  apply List.ext_getElem?
  intro i
  by_cases hi : i < fs.size
  · obtain ⟨k, hu, ho, hc⟩ := hf i fs[i] (by simp [hi])
    have h1 := hall i fs[i] (by simp [hi])
    obtain ⟨b, hb⟩ : ∃ b, xs[i]? = some b := ⟨xs[i]'(by omega), List.getElem?_eq_getElem (by omega)⟩
    rw [hb, ho, hc] at h1
    obtain ⟨z, hcz, rfl, _⟩ := DataW.trod_int hu h1
    have h2 : cs[i]? = some (.int k z) := by
      have := congrArg (·[0]?) hcz
      simpa [List.getElem?_take, List.getElem?_drop] using this
    have h3 : (xs.map (·.1))[i]? = some (DataW.lit (.int k z) : DataW H) := by simp [hb]
    rw [hxs] at h3
    simp only [List.getElem?_map, Option.map_eq_some_iff, DataW.lit.injEq, Lit.int.injEq] at h3
    obtain ⟨z', hz', rfl, rfl⟩ := h3
    simp [h2, hz']
  · rw [List.getElem?_eq_none (by omega), List.getElem?_eq_none (by simp; omega)]
theorem array_len {fuel : Nat} {t e : TypeId} {n : Nat} {cs : List Value} {x : DataW H × List MemPlace} (ht : P.underlying t = some (.array n e))
    (h : DataW.trod enc P w base sp held fuel t cs = some x) : cs.length = P.cellsOf t := by
  cases fuel with
  | zero => simp [DataW.trod] at h
  | succ fuel =>
    simp only [DataW.trod, ht] at h
    split at h
    · rename_i hl; first | exact hl | exact hl.1 | simpa using hl
    · cases h
end

def row0 : List (IntKind × Int) := [(.i64, 1), (.u8, 64), (.i64, 0), (.i64, 64)]
def row1 : List (IntKind × Int) := [(.i64, 2), (.u8, 128), (.i64, 16384), (.i64, 16384)]
def row2 : List (IntKind × Int) := [(.i64, 4), (.u8, 192), (.i64, 2147483648), (.i64, 1073741824)]
theorem classStruct : ∃ fs : Array Field, Tryz.prog.underlying 133 = some (.struct fs) ∧ (∀ (i : Nat) (f : Field), fs[i]? = some f → ∃ k, Tryz.prog.underlying f.type = some (.int k) ∧ f.offset = i ∧ Tryz.prog.cellsOf f.type = 1) ∧ Tryz.prog.cellsOf 133 = fs.size ∧ fs.size = 4 := by
  refine ⟨_, Tryz.underlying133, fun i f hf => ?_, by kernel_rfl, by kernel_rfl⟩
  match i with
  | 0 => simp at hf; subst hf; exact ⟨.i64, Tryz.underlying3, rfl, by kernel_rfl⟩
  | 1 => simp at hf; subst hf; exact ⟨.u8, Tryz.underlying5, rfl, by kernel_rfl⟩
  | 2 => simp at hf; subst hf; exact ⟨.i64, Tryz.underlying2, rfl, by kernel_rfl⟩
  | 3 => simp at hf; subst hf; exact ⟨.i64, Tryz.underlying2, rfl, by kernel_rfl⟩
  | i + 4 => simp at hf

theorem tables_of0 {W : World} (h : laidMetH Tryz.prog laidList W) : ∃ t fr, W.heap[1]? = some (.cells classCells t fr) := by
  have h0 : laidMet Tryz.prog laidList W := h
  obtain ⟨g, t, cs, fuel, p, hg, hty, hv, hr⟩ := Lib.laidMet.reads h0 (n := "sodality/wire.classes") (d := Rows.laid_sodality_wire_classes) (.head _)
  obtain rfl : g = 1 := (Option.some.inj (gClasses.symm.trans hg)).symm
  obtain rfl : t = 134 := (Option.some.inj ((show (Tryz.prog.globals[1]?).map (·.type) = some 134 by kernel_rfl).symm.trans hty)).symm
  obtain ⟨fs, hs1, hs2, hs3, hs4⟩ := classStruct
  have hlen := array_len Tryz.underlying134 hr
  have hc60 : Tryz.prog.cellsOf 134 = 12 := by kernel_rfl
  have hc59 : Tryz.prog.cellsOf 133 = 4 := by kernel_rfl
  have key : ∀ i kz, i < 3 → (Rows.laid_sodality_wire_classes (H := Unit) = .agg [.agg (row0.map fun z => .lit (.int z.1 z.2)), .agg (row1.map fun z => .lit (.int z.1 z.2)), .agg (row2.map fun z => .lit (.int z.1 z.2))]) → [row0, row1, row2][i]? = some kz → (cs.toList.drop (i * 4)).take 4 = kz.map fun z => Value.int z.1 z.2 := by
    intro i kz hi he hkz
    rw [he] at hr
    obtain ⟨fuel', d, q, hd, ht⟩ := Lib.array_elem Tryz.underlying134 hr i hi
    rw [hc59] at ht
    have hd' : d = .agg (kz.map fun z => .lit (.int z.1 z.2)) := by
      match i, hi with
      | 0, _ => simp at hd hkz; subst hkz; exact hd.symm
      | 1, _ => simp at hd hkz; subst hkz; exact hd.symm
      | 2, _ => simp at hd hkz; subst hkz; exact hd.symm
    subst hd'
    exact lits_of_struct hs1 hs2 hs3 ht
  have k0 := key 0 row0 (by omega) rfl rfl
  have k1 := key 1 row1 (by omega) rfl rfl
  have k2 := key 2 row2 (by omega) rfl rfl
  have hall : cs.toList = (row0 ++ row1 ++ row2).map fun z => Value.int z.1 z.2 := by
    rw [hc60] at hlen
    have e : cs.toList = (cs.toList.drop (0 * 4)).take 4 ++ ((cs.toList.drop (1 * 4)).take 4 ++ (cs.toList.drop (2 * 4)).take 4) := by
      have e1 : (cs.toList.drop (2 * 4)).take 4 = cs.toList.drop 8 := List.take_of_length_le (by rw [List.length_drop]; omega)
      rw [e1]
      have e2 : (cs.toList.drop (1 * 4)).take 4 ++ cs.toList.drop 8 = cs.toList.drop 4 := by
        have := List.take_append_drop 4 (cs.toList.drop 4)
        rw [List.drop_drop] at this
        exact this
      rw [e2]
      exact (List.take_append_drop 4 cs.toList).symm
    rw [e, k0, k1, k2, List.map_append, List.map_append, List.append_assoc]
  have hcs : cs = classCells := by
    apply Array.toList_inj.1
    rw [hall]; rfl
  unfold World.var? at hv
  rw [hg] at hv
  simp only [Option.bind_some] at hv
  split at hv
  · rename_i cs' t' fr' hb
    have := Option.some.inj hv
    exact ⟨t', fr', by rw [hb, this, hcs]⟩
  · cases hv

/-- a world for the witness: the settled one, the table as its initialiser lays it -/
noncomputable def laidWorld (os : Os) : World :=
  let w := World.holding Tryz.prog os ⟨#[], #[], []⟩
  { w with heap := w.heap.modify 1 fun | .cells _ t fr => .cells classCells t fr | o => o }
theorem laid_met (os : Os) (args : Array Value) : laidMet Tryz.prog laidList ((laidWorld os).forCall (fun _ _ => 0) ⟨#[], args, []⟩).memory :=
  laidMet_of_run' 8 (by kernel_rfl) (by kernel_rfl)

/-- a slice of bytes that came in -/
def IsRow (k : IntKind) (w : World) (a : Option Addr) (len cap : Nat) (zs : List Int) : Prop :=
  (a = none ∧ len = 0 ∧ cap = 0 ∧ zs = []) ∨
  ∃ x, a = some x ∧ len ≤ cap ∧ cap ≤ maxLen ∧ zs.length = cap ∧ (∀ i, i < zs.length → w.cell? (x.add i) = some (.int k (zs.getD i 0))) ∧ ∀ n ∈ zs, (Lit.int k n).wf = true
def bytesOf (zs : List Int) (len : Nat) : List Nat := (zs.take len).map Int.toNat
theorem txt_of_row {w : World} {a : Option Addr} {len cap : Nat} {zs : List Int} (h : IsRow .u8 w a len cap zs) : Txt Any w a len cap (bytesOf zs len) := by
  rcases h with ⟨rfl, rfl, rfl, rfl⟩ | ⟨x, rfl, h1, h2, h3, h4, h5⟩
  · exact Txt.nil _ _
  · have hlen : (bytesOf zs len).length = len := by simp [bytesOf]; omega
    have hb : ∀ n ∈ zs, 0 ≤ n ∧ n < 256 := fun n hn => by
      have := h5 n hn
      simp [Lit.wf, IntKind.min, IntKind.max, IntKind.bits, IntKind.signed] at this
      omega
    have hat : ∀ j, j < len → zs.getD j 0 ∈ zs := fun j hj => by
      rw [List.getD_eq_getElem?_getD, List.getElem?_eq_getElem (by omega)]; exact List.getElem_mem _
    have hg : ∀ j, j < len → gt (bytesOf zs len) j = (zs.getD j 0).toNat := fun j hj => by
      unfold gt bytesOf
      rw [List.getD_eq_getElem?_getD, List.getD_eq_getElem?_getD, List.getElem?_map, List.getElem?_take_of_lt hj, List.getElem?_eq_getElem (by omega)]; rfl
    refine ⟨⟨fun j => ?_, fun hn => ⟨x, rfl, ?_, fun j hj => ?_⟩⟩, hlen, h1, by unfold maxLen at h2; omega, fun e => (by cases e), fun _ _ => True.intro⟩
    · by_cases hj : j < len
      · rw [hg j hj]; have := hb _ (hat j hj); omega
      · rw [gt_ge _ _ (by omega)]; omega
    · rw [hlen] at hn
      have := h4 0 (by omega)
      have hlt := block_lt_of_cell this
      unfold Addr.add at hlt
      simpa using hlt
    · rw [hlen] at hj
      rw [h4 j (by omega), hg j hj]
      have := hb _ (hat j hj)
      congr 2
      omega

/-- a slice of slices of bytes that came in -/
theorem rows_of {H : Type} {enc : TypeId × Value → H} {W : World} {a : Option Addr} {len cap : Nat} {x : DataW H × List MemPlace} (h : ∃ fuel, DataW.trod enc Tryz.prog W 0 (fun _ => true) true fuel 89 [.slice a len cap] = some x) :
    ∃ ls, TxtL Any W a len cap ls := by
  obtain ⟨fuel, hf⟩ := h
  rcases Go.Deep.open_int_rows (k := .u8) Tryz.underlying89 Tryz.underlying25 Tryz.underlying5 (by kernel_rfl) (by kernel_rfl) hf with ⟨hcs, _⟩ | ⟨x, l, c, A, L, C, Z, hcs, _, hl, hm, _, hr⟩
  · simp at hcs
    obtain ⟨rfl, rfl, rfl⟩ := hcs
    exact ⟨[], TxtL.nil _ _⟩
  · simp at hcs
    obtain ⟨rfl, rfl, rfl⟩ := hcs
    refine ⟨(List.range len).map fun r => bytesOf (Z r) (L r), by simp, hl, by unfold maxLen at hm; omega, fun e => (by cases e), fun ad e => ?_, fun ad e j hj => ?_⟩
    · injection e with e
      subst e
      refine ⟨True.intro, fun hn => ?_⟩
      have h0 := (hr 0 (by omega)).1
      have hlt := block_lt_of_cell h0
      unfold Addr.add at hlt
      simpa using hlt
    · injection e with e
      subst e
      obtain ⟨h1, h2, h3, h4, h5, h6, h7⟩ := hr j (by omega)
      refine ⟨A j, L j, C j, h1, ?_⟩
      have e : ((List.range len).map fun r => bytesOf (Z r) (L r)).getD j [] = bytesOf (Z j) (L j) := by
        rw [List.getD_eq_getElem?_getD, List.getElem?_map, List.getElem?_range hj]; rfl
      rw [e]
      refine txt_of_row ?_
      cases hA : A j with
      | none =>
        have hc0 := h6 hA
        exact .inl ⟨rfl, by omega, hc0, List.eq_nil_of_length_eq_zero (by omega)⟩
      | some a' =>
        exact .inr ⟨a', rfl, h2, h3, h4, fun i hi => (h7 a' hA).2 i (by omega), h5⟩
end Go.Proofs.YtakglldffpnlaaaGreatDoor.Wr

namespace Go.Proofs.YtakglldffpnlaaaGreatDoor.Rt
set_option linter.all false
set_option maxRecDepth 100000
open Go.ChangeShapes Go.WideShapes Go.ChangeAt Go.RowKit
open Wr (Txt Any New)

def laidList : List (String × DataW Unit) := [("math/bits.deBruijn32tab", Rows.laid_math_bits_deBruijn32tab), ("math/bits.deBruijn64tab", Rows.laid_math_bits_deBruijn64tab), ("sodality/sha2.firstState", Rows.laid_sodality_sha2_firstState), ("sodality/sha2.roundConstants", Rows.laid_sodality_sha2_roundConstants), ("sodality/wire.classes", Rows.laid_sodality_wire_classes)]
theorem cells_lt {w : World} {g : Nat} {o : Obj} (h : w.heap[g]? = some o) : g < w.heap.size := (Array.getElem?_eq_some_iff.1 h).1
theorem tabs_of {W : World} (h : laidMetH Tryz.prog laidList W) : Tabs W := by
  have h0 : laidMet Tryz.prog laidList W := h
  have hb : laidMet Tryz.prog Sp.laidList W := h0.filter (fun x => x.1 == "math/bits.deBruijn32tab" || x.1 == "math/bits.deBruijn64tab")
  have hs : laidMet Tryz.prog Sha.laidList W := h0.filter (fun x => x.1 == "sodality/sha2.firstState" || x.1 == "sodality/sha2.roundConstants")
  have hw : laidMet Tryz.prog Wr.laidList W := h0.filter (fun x => x.1 == "sodality/wire.classes")
  have h1 : laidMet Tryz.prog [("sodality/sha2.firstState", Rows.laid_sodality_sha2_firstState)] W := h0.filter (fun x => x.1 == "sodality/sha2.firstState")
  have h2 : laidMet Tryz.prog [("sodality/sha2.roundConstants", Rows.laid_sodality_sha2_roundConstants)] W := h0.filter (fun x => x.1 == "sodality/sha2.roundConstants")
  have tl1 : Sha.TabAt W 0 .u32 Sha.firstT := Sha.tabAt_of_is Sha.gFirst (Lib.tabIs_of_head (rest := []) Sha.gFirst (t := 122) (by kernel_rfl) Tryz.underlying122 Tryz.underlying120 (by kernel_rfl) (by kernel_rfl) h1)
  have l1 := tl1.lt
  have tl2 : Sha.TabAt W 2 .u32 Sha.consT := Sha.tabAt_of_is Sha.gRounds (Lib.tabIs_of_head (rest := []) Sha.gRounds (t := 141) (by kernel_rfl) Tryz.underlying141 Tryz.underlying120 (by kernel_rfl) (by kernel_rfl) h2)
  have l2 := tl2.lt
  have hS := Sp.tab_of hb
  have l3 : 5 < W.heap.size := by obtain ⟨t, fr, hc⟩ := hS; exact cells_lt hc
  have hW := Wr.tables_of0 hw
  have l4 : 1 < W.heap.size := by obtain ⟨t, fr, hc⟩ := hW; exact cells_lt hc
  have hG : 6 ≤ W.heap.size := by omega
  exact ⟨Sha.tables_of hs hG, ⟨hG, hW⟩, hS⟩

/-- a world for the witness: the settled one, the tables as their initialisers lay them -/
noncomputable def laidWorld (os : Os) : World :=
  let w := World.holding Tryz.prog os ⟨#[], #[], []⟩
  { w with heap := ((((w.heap.modify 4 fun | .cells _ t fr => .cells (Sp.numsOf .u8 Sp.bru32) t fr | o => o).modify 5 fun | .cells _ t fr => .cells (Sp.numsOf .u8 Sp.bru) t fr | o => o).modify 0 fun | .cells _ t fr => .cells (Sha.numsOf .u32 Sha.firstT) t fr | o => o).modify 2 fun | .cells _ t fr => .cells (Sha.numsOf .u32 Sha.consT) t fr | o => o).modify 1 fun | .cells _ t fr => .cells Wr.classCells t fr | o => o }
theorem laid_met (os : Os) (args : Array Value) : laidMet Tryz.prog laidList ((laidWorld os).forCall (fun _ _ => 0) ⟨#[], args, []⟩).memory :=
  laidMet_of_run' 8 (by kernel_rfl) (by kernel_rfl)

section
variable {H : Type} {enc : TypeId × Value → H} {P : Program} {w : World} {base : Nat} {spare : Nat → Bool} {held : Bool}
/-- a slice of structs of one-cell fields, opened to its cells -/
theorem open_rows {t e : TypeId} {fs : Array Field} {fuel : Nat} {cs : List Value} {x : DataW H × List MemPlace} (ht : P.underlying t = some (.slice e)) (he : P.underlying e = some (.struct fs))
    (hone : Go.Deep.oneCellFields P fs = true) (hC : P.cellsOf e = fs.size) (h : DataW.trod enc P w base spare held fuel t cs = some x) :
    (cs = [.slice none 0 0]) ∨
    ∃ (a : Addr) (len cap m : Nat), cs = [.slice (some a) len cap] ∧ len ≤ cap ∧ cap ≤ maxLen ∧ m = (if spare a.block then cap else len) ∧
      ∀ i, i < m → ∃ (n : Nat), ∀ (j : Nat) (f : Field), fs[j]? = some f → ∃ (v : Value) (y : DataW H × List MemPlace), w.cell? (a.add (i * fs.size + j)) = some v ∧ DataW.trod enc P w base spare held n f.type [v] = some y := by
  rcases Go.Deep.open_slice ht h with ⟨h0, _⟩ | ⟨a, len, cap, m, n, D, Pl, hcs, hb, hl, hm, hmm, hx, hi⟩
  · exact .inl h0
  · refine .inr ⟨a, len, cap, m, hcs, hl, hm, hmm, fun i him => ?_⟩
    obtain ⟨cs', hc, ht'⟩ := hi i him
    rw [hC] at hc
    obtain ⟨ys, n', hn', hy, hlen, hyl, hf⟩ := DataW.trod_struct he ht'
    obtain ⟨_, hcl, hat⟩ := World.cells?_some hc
    refine ⟨n', fun j f hj => ?_⟩
    obtain ⟨ho, hk⟩ := Go.Deep.hone_of hone j f hj
    have hjl : j < fs.size := (Array.getElem?_eq_some_iff.1 hj).1
    have hcell := hat j hjl
    have hv : cs'[j]? = some (cs'[j]'(by omega)) := List.getElem?_eq_getElem (by omega)
    have h1 := hf j f hj
    rw [ho, hk] at h1
    have hone' : (cs'.drop j).take 1 = [cs'[j]'(by omega)] := by
      rw [List.drop_eq_getElem_cons (by omega)]
      rfl
    rw [hone'] at h1
    have hys : ys[j]? = some (ys[j]'(by omega)) := List.getElem?_eq_getElem (by omega)
    refine ⟨_, _, ?_, h1.trans hys⟩
    rw [← Go.Deep.add_add, hcell, hv]
end
section
variable {H : Type} {enc : TypeId × Value → H} {W : World} {held : Bool}
theorem txt_cam {n : Nat} {v : Value} {y : DataW H × List MemPlace} (h : DataW.trod enc Tryz.prog W 0 (fun _ => true) held n 25 [v] = some y) : ∃ A m c bs, v = .slice A m c ∧ Txt Any W A m c bs := by
  rcases open_ints Tryz.underlying25 Tryz.underlying5 (by kernel_rfl) h with ⟨hcs, _⟩ | ⟨x', l', c', zs, hcs, _, hl', hm', hz, _, hcell, hwz⟩
  · simp only [List.cons.injEq, and_true] at hcs
    subst hcs
    exact ⟨none, 0, 0, [], rfl, Txt.nil _ _⟩
  · simp only [List.cons.injEq, and_true] at hcs
    subst hcs
    exact ⟨some x', l', c', _, rfl, Wr.txt_of_row (.inr ⟨_, rfl, hl', hm', by simpa using hz, hcell, hwz⟩)⟩
theorem ints_cam {n : Nat} {v : Value} {y : DataW H × List MemPlace} (h : DataW.trod enc Tryz.prog W 0 (fun _ => true) held n 26 [v] = some y) : ∃ A m c xs, v = .slice A m c ∧ Ints Any W A m c xs := by
  rcases open_ints Tryz.underlying26 Tryz.underlying3 (by kernel_rfl) h with ⟨hcs, _⟩ | ⟨x', l', c', zs, hcs, _, hl', hm', hz, _, hcell, hwz⟩
  · simp only [List.cons.injEq, and_true] at hcs
    subst hcs
    exact ⟨none, 0, 0, [], rfl, Ints.nil _ _⟩
  · simp only [List.cons.injEq, and_true] at hcs
    subst hcs
    have hz' : zs.length = c' := by simpa using hz
    refine ⟨some x', l', c', zs.take l', rfl, by rw [List.length_take]; omega, hl', by unfold maxLen at hm'; omega, fun e => (by cases e), fun ad e => ?_, fun ad e j hj => ?_⟩
    · injection e with e
      subst e
      refine ⟨True.intro, fun hn => ?_⟩
      have hlt := block_lt_of_cell (hcell 0 (by omega))
      unfold Addr.add at hlt
      simpa using hlt
    · injection e with e
      subst e
      rw [hcell j (by omega)]
      unfold gi
      rw [List.getD_eq_getElem?_getD, List.getD_eq_getElem?_getD, List.getElem?_take_of_lt hj]
theorem nodes_cam {n : Nat} {v : Value} {y : DataW H × List MemPlace} (h : DataW.trod enc Tryz.prog W 0 (fun _ => true) held n 22 [v] = some y) : ∃ A m c ns, v = .slice A m c ∧ Nodes Any Any W A m c ns := by
  rcases open_rows Tryz.underlying22 Tryz.underlying28 (by kernel_rfl) (by kernel_rfl) h with hcs | ⟨ad, l, c, m, hcs, hl, hm, hmm, hx⟩
  · simp only [List.cons.injEq, and_true] at hcs
    subst hcs
    exact ⟨none, 0, 0, [], rfl, rfl, Nat.le_refl _, by omega, fun _ => rfl, fun _ e => (by cases e), fun _ e => (by cases e)⟩
  · simp only [List.cons.injEq, and_true] at hcs
    subst hcs
    rw [if_pos rfl] at hmm
    subst hmm
    have each : ∀ k, ∃ t : NdQ × Nd, k < m → NdAt W (ad.add (k * 6)) t.1 ∧ NdIs Any W t.1 t.2 := by
      intro k
      by_cases hk : k < m
      · obtain ⟨f, hf⟩ := hx k hk
        obtain ⟨v0, y0, c0, u0⟩ := hf 0 _ rfl
        obtain ⟨v1, y1, c1, u1⟩ := hf 1 _ rfl
        obtain ⟨v2, y2, c2, u2⟩ := hf 2 _ rfl
        obtain ⟨v3, y3, c3, u3⟩ := hf 3 _ rfl
        obtain ⟨v4, y4, c4, u4⟩ := hf 4 _ rfl
        obtain ⟨v5, y5, c5, u5⟩ := hf 5 _ rfl
        obtain ⟨q0, e0, _, _⟩ := DataW.trod_int Tryz.underlying3 u0
        simp only [List.cons.injEq, and_true] at e0
        subst e0
        obtain ⟨A1, n1, d1, b1, rfl, t1⟩ := txt_cam u1
        obtain ⟨A2, n2, d2, b2, rfl, t2⟩ := txt_cam u2
        obtain ⟨A3, n3, d3, b3, rfl, t3⟩ := txt_cam u3
        obtain ⟨A4, n4, d4, b4, rfl, t4⟩ := txt_cam u4
        obtain ⟨A5, n5, d5, b5, rfl, t5⟩ := ints_cam u5
        refine ⟨(⟨q0, A1, n1, d1, A2, n2, d2, A3, n3, d3, A4, n4, d4, A5, n5, d5⟩, ⟨q0, b1, b2, b3, b4, b5⟩), fun _ => ⟨fun i hi => ?_, ⟨rfl, t1, t2, t3, t4, t5⟩⟩⟩
        rw [Go.Deep.add_add]
        match i, hi with
        | 0, _ => exact c0
        | 1, _ => exact c1
        | 2, _ => exact c2
        | 3, _ => exact c3
        | 4, _ => exact c4
        | 5, _ => exact c5
      · exact ⟨(zeroQ, blank), fun h => absurd h hk⟩
    obtain ⟨t, ht⟩ := Classical.axiomOfChoice each
    refine ⟨some ad, l, m, (List.range l).map fun k => (t k).2, rfl, by simp, hl, by unfold maxLen at hm; omega, fun e => (by cases e), fun a e => ?_, fun a e j hj => ?_⟩
    · injection e with e
      subst e
      refine ⟨True.intro, fun hn => ?_⟩
      have hlt := block_lt_of_cell (ht 0 (by omega)).1.cells.1
      unfold Addr.add at hlt
      simpa using hlt
    · injection e with e
      subst e
      refine ⟨(t j).1, (ht j (by omega)).1, ?_⟩
      have e : nd ((List.range l).map fun k => (t k).2) j = (t j).2 := by
        unfold nd
        rw [List.getD_eq_getElem?_getD, List.getElem?_map, List.getElem?_range hj]; rfl
      rw [e]
      exact (ht j (by omega)).2
/-- a tree that came in -/
theorem tree_cam {base : Nat} {v : Value} {d : DataW H} {p : List MemPlace} (hv : Value.okWide Tryz.prog W .any base 24 v) (h : DataW.Trod enc Tryz.prog W 0 (fun _ => true) held 24 v d p) :
    ∃ D A n c ns, v = .agg #[.int .i64 D, .slice A n c] ∧ Nodes Any Any W A n c ns := by
  obtain ⟨v0, v1, y0, y1, f, rfl, _, _, u0, u1⟩ := Go.Joins.open_agg2 Tryz.underlying24 (by kernel_rfl) (by kernel_rfl) hv h
  obtain ⟨q0, e0, _, _⟩ := DataW.trod_int Tryz.underlying3 u0
  simp only [List.cons.injEq, and_true] at e0
  subst e0
  obtain ⟨A, n, c, ns, rfl, hN⟩ := nodes_cam u1
  exact ⟨q0, A, n, c, ns, rfl, hN⟩
end
end Go.Proofs.YtakglldffpnlaaaGreatDoor.Rt
