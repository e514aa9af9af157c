/- What the rows' proofs share: the package's table out of the laid list, a world for the witness, slices of bytes that came in. -/
import Derived.Test.YtikafijdfgkgkaaDoorWrM2
import Derived.Test.YtikafijdfgkgkaaDoorCards
import Derived.Test.YtikafijdfgkgkaaDoorTie
import Derived.ProofKit
import Derived.OpenShut
import Derived.ShutString
import Derived.ChangeOld
import Derived.Below
import Derived.Deep.DeepHandedRow
import Derived.Lib.LaidTab
import Derived.Lib.LaidU8
import Derived.LaidSub
import Derived.Deep.Matrix
namespace Go.Proofs.YtikafijdfgkgkaaDoor.Wr
set_option linter.all false
open Go.ChangeShapes Go.WideShapes Go.ChangeAt Go.RowKit

theorem own : ownKnob Tryd.prog.godebug = none := by kernel_rfl
theorem laidOut : laidOutB Tryd.prog = true := by kernel_rfl
def laidList : List (String × DataW Unit) := [("sodality/wire.classes", Rows.laid_sodality_wire_classes)]
theorem gClasses : Tryd.prog.globalNamed "sodality/wire.classes" = some 2 := by kernel_rfl

section
variable {H : Type} {enc : TypeId × Value → H} {P : Program} {w : World} {base : Nat} {sp : Nat → Bool} {held : Bool}
theorem lits_of_struct {fuel : Nat} {t : TypeId} {fs : Array Field} {cs : List Value} {kz : List (IntKind × Int)} {p : List MemPlace} (ht : P.underlying t = some (.struct fs))
    (hf : ∀ (i : Nat) (f : Field), fs[i]? = some f → ∃ k, P.underlying f.type = some (.int k) ∧ f.offset = i ∧ P.cellsOf f.type = 1) (hct : P.cellsOf t = fs.size)
    (h : DataW.trod enc P w base sp held fuel t cs = some (.agg (kz.map fun z => .lit (.int z.1 z.2)), p)) : cs = kz.map fun z => Value.int z.1 z.2 := by
  obtain ⟨xs, n, rfl, hx, hl, hxl, hall⟩ := DataW.trod_struct ht h
  have hxs : xs.map (·.1) = kz.map fun z => (DataW.lit (.int z.1 z.2) : DataW H) := by
    have := congrArg Prod.fst hx
    simpa using this.symm
  have hzl : kz.length = fs.size := by
    have := congrArg List.length hxs
    simp at this
    omega
  apply List.ext_getElem?
  intro i
  by_cases hi : i < fs.size
  · obtain ⟨k, hu, ho, hc⟩ := hf i fs[i] (by simp [hi])
    have h1 := hall i fs[i] (by simp [hi])
    obtain ⟨b, hb⟩ : ∃ b, xs[i]? = some b := ⟨xs[i]'(by omega), List.getElem?_eq_getElem (by omega)⟩
    rw [hb, ho, hc] at h1
    obtain ⟨z, hcz, rfl, _⟩ := DataW.trod_int hu h1
    have h2 : cs[i]? = some (.int k z) := by
      have := congrArg (·[0]?) hcz
      simpa [List.getElem?_take, List.getElem?_drop] using this
    have h3 : (xs.map (·.1))[i]? = some (DataW.lit (.int k z) : DataW H) := by simp [hb]
    rw [hxs] at h3
    simp only [List.getElem?_map, Option.map_eq_some_iff, DataW.lit.injEq, Lit.int.injEq] at h3
    obtain ⟨z', hz', rfl, rfl⟩ := h3
    simp [h2, hz']
  · rw [List.getElem?_eq_none (by omega), List.getElem?_eq_none (by simp; omega)]
theorem array_len {fuel : Nat} {t e : TypeId} {n : Nat} {cs : List Value} {x : DataW H × List MemPlace} (ht : P.underlying t = some (.array n e))
    (h : DataW.trod enc P w base sp held fuel t cs = some x) : cs.length = P.cellsOf t := by
  cases fuel with
  | zero => simp [DataW.trod] at h
  | succ fuel =>
    simp only [DataW.trod, ht] at h
    split at h
    · rename_i hl; first | exact hl | exact hl.1 | simpa using hl
    · cases h
end

def row0 : List (IntKind × Int) := [(.i64, 1), (.u8, 64), (.i64, 0), (.i64, 64)]
def row1 : List (IntKind × Int) := [(.i64, 2), (.u8, 128), (.i64, 16384), (.i64, 16384)]
def row2 : List (IntKind × Int) := [(.i64, 4), (.u8, 192), (.i64, 2147483648), (.i64, 1073741824)]
theorem classStruct : ∃ fs : Array Field, Tryd.prog.underlying 83 = some (.struct fs) ∧ (∀ (i : Nat) (f : Field), fs[i]? = some f → ∃ k, Tryd.prog.underlying f.type = some (.int k) ∧ f.offset = i ∧ Tryd.prog.cellsOf f.type = 1) ∧ Tryd.prog.cellsOf 83 = fs.size ∧ fs.size = 4 := by
  refine ⟨_, Tryd.underlying83, fun i f hf => ?_, by kernel_rfl, by kernel_rfl⟩
  match i with
  | 0 => simp at hf; subst hf; exact ⟨.i64, Tryd.underlying3, rfl, by kernel_rfl⟩
  | 1 => simp at hf; subst hf; exact ⟨.u8, Tryd.underlying5, rfl, by kernel_rfl⟩
  | 2 => simp at hf; subst hf; exact ⟨.i64, Tryd.underlying2, rfl, by kernel_rfl⟩
  | 3 => simp at hf; subst hf; exact ⟨.i64, Tryd.underlying2, rfl, by kernel_rfl⟩
  | i + 4 => simp at hf

theorem tables_of0 {W : World} (h : laidMetH Tryd.prog laidList W) : ∃ t fr, W.heap[2]? = some (.cells classCells t fr) := by
  have h0 : laidMet Tryd.prog laidList W := h
  obtain ⟨g, t, cs, fuel, p, hg, hty, hv, hr⟩ := Lib.laidMet.reads h0 (n := "sodality/wire.classes") (d := Rows.laid_sodality_wire_classes) (.head _)
  obtain rfl : g = 2 := (Option.some.inj (gClasses.symm.trans hg)).symm
  obtain rfl : t = 84 := (Option.some.inj ((show (Tryd.prog.globals[2]?).map (·.type) = some 84 by kernel_rfl).symm.trans hty)).symm
  obtain ⟨fs, hs1, hs2, hs3, hs4⟩ := classStruct
  have hlen := array_len Tryd.underlying84 hr
  have hc60 : Tryd.prog.cellsOf 84 = 12 := by kernel_rfl
  have hc59 : Tryd.prog.cellsOf 83 = 4 := by kernel_rfl
  have key : ∀ i kz, i < 3 → (Rows.laid_sodality_wire_classes (H := Unit) = .agg [.agg (row0.map fun z => .lit (.int z.1 z.2)), .agg (row1.map fun z => .lit (.int z.1 z.2)), .agg (row2.map fun z => .lit (.int z.1 z.2))]) → [row0, row1, row2][i]? = some kz → (cs.toList.drop (i * 4)).take 4 = kz.map fun z => Value.int z.1 z.2 := by
    intro i kz hi he hkz
    rw [he] at hr
    obtain ⟨fuel', d, q, hd, ht⟩ := Lib.array_elem Tryd.underlying84 hr i hi
    rw [hc59] at ht
    have hd' : d = .agg (kz.map fun z => .lit (.int z.1 z.2)) := by
      match i, hi with
      | 0, _ => simp at hd hkz; subst hkz; exact hd.symm
      | 1, _ => simp at hd hkz; subst hkz; exact hd.symm
      | 2, _ => simp at hd hkz; subst hkz; exact hd.symm
    subst hd'
    exact lits_of_struct hs1 hs2 hs3 ht
  have k0 := key 0 row0 (by omega) rfl rfl
  have k1 := key 1 row1 (by omega) rfl rfl
  have k2 := key 2 row2 (by omega) rfl rfl
  have hall : cs.toList = (row0 ++ row1 ++ row2).map fun z => Value.int z.1 z.2 := by
    rw [hc60] at hlen
    have e : cs.toList = (cs.toList.drop (0 * 4)).take 4 ++ ((cs.toList.drop (1 * 4)).take 4 ++ (cs.toList.drop (2 * 4)).take 4) := by
      have e1 : (cs.toList.drop (2 * 4)).take 4 = cs.toList.drop 8 := List.take_of_length_le (by rw [List.length_drop]; omega)
      rw [e1]
      have e2 : (cs.toList.drop (1 * 4)).take 4 ++ cs.toList.drop 8 = cs.toList.drop 4 := by
        have := List.take_append_drop 4 (cs.toList.drop 4)
        rw [List.drop_drop] at this
        exact this
      rw [e2]
      exact (List.take_append_drop 4 cs.toList).symm
    rw [e, k0, k1, k2, List.map_append, List.map_append, List.append_assoc]
  have hcs : cs = classCells := by
    apply Array.toList_inj.1
    rw [hall]; rfl
  unfold World.var? at hv
  rw [hg] at hv
  simp only [Option.bind_some] at hv
  split at hv
  · rename_i cs' t' fr' hb
    have := Option.some.inj hv
    exact ⟨t', fr', by rw [hb, this, hcs]⟩
  · cases hv

/-- a world for the witness: the settled one, the table as its initialiser lays it -/
noncomputable def laidWorld (os : Os) : World :=
  let w := World.holding Tryd.prog os ⟨#[], #[], []⟩
  { w with heap := w.heap.modify 2 fun | .cells _ t fr => .cells classCells t fr | o => o }
theorem laid_met (os : Os) (args : Array Value) : laidMet Tryd.prog laidList ((laidWorld os).forCall (fun _ _ => 0) ⟨#[], args, []⟩).memory :=
  laidMet_of_run' 8 (by kernel_rfl) (by kernel_rfl)

/-- a slice of bytes that came in -/
def IsRow (k : IntKind) (w : World) (a : Option Addr) (len cap : Nat) (zs : List Int) : Prop :=
  (a = none ∧ len = 0 ∧ cap = 0 ∧ zs = []) ∨
  ∃ x, a = some x ∧ len ≤ cap ∧ cap ≤ maxLen ∧ zs.length = cap ∧ (∀ i, i < zs.length → w.cell? (x.add i) = some (.int k (zs.getD i 0))) ∧ ∀ n ∈ zs, (Lit.int k n).wf = true
def bytesOf (zs : List Int) (len : Nat) : List Nat := (zs.take len).map Int.toNat
theorem txt_of_row {w : World} {a : Option Addr} {len cap : Nat} {zs : List Int} (h : IsRow .u8 w a len cap zs) : Txt Any w a len cap (bytesOf zs len) := by
  rcases h with ⟨rfl, rfl, rfl, rfl⟩ | ⟨x, rfl, h1, h2, h3, h4, h5⟩
  · exact Txt.nil _ _
  · have hlen : (bytesOf zs len).length = len := by simp [bytesOf]; omega
    have hb : ∀ n ∈ zs, 0 ≤ n ∧ n < 256 := fun n hn => by
      have := h5 n hn
      simp [Lit.wf, IntKind.min, IntKind.max, IntKind.bits, IntKind.signed] at this
      omega
    have hat : ∀ j, j < len → zs.getD j 0 ∈ zs := fun j hj => by
      rw [List.getD_eq_getElem?_getD, List.getElem?_eq_getElem (by omega)]; exact List.getElem_mem _
    have hg : ∀ j, j < len → gt (bytesOf zs len) j = (zs.getD j 0).toNat := fun j hj => by
      unfold gt bytesOf
      rw [List.getD_eq_getElem?_getD, List.getD_eq_getElem?_getD, List.getElem?_map, List.getElem?_take_of_lt hj, List.getElem?_eq_getElem (by omega)]; rfl
    refine ⟨⟨fun j => ?_, fun hn => ⟨x, rfl, ?_, fun j hj => ?_⟩⟩, hlen, h1, by unfold maxLen at h2; omega, fun e => (by cases e), fun _ _ => True.intro⟩
    · by_cases hj : j < len
      · rw [hg j hj]; have := hb _ (hat j hj); omega
      · rw [gt_ge _ _ (by omega)]; omega
    · rw [hlen] at hn
      have := h4 0 (by omega)
      have hlt := block_lt_of_cell this
      unfold Addr.add at hlt
      simpa using hlt
    · rw [hlen] at hj
      rw [h4 j (by omega), hg j hj]
      have := hb _ (hat j hj)
      congr 2
      omega

/-- a slice of slices of bytes that came in -/
theorem rows_of {H : Type} {enc : TypeId × Value → H} {W : World} {a : Option Addr} {len cap : Nat} {x : DataW H × List MemPlace} (h : ∃ fuel, DataW.trod enc Tryd.prog W 0 (fun _ => true) true fuel 52 [.slice a len cap] = some x) :
    ∃ ls, TxtL Any W a len cap ls := by
  obtain ⟨fuel, hf⟩ := h
  rcases Go.Deep.open_int_rows (k := .u8) Tryd.underlying52 Tryd.underlying22 Tryd.underlying5 (by kernel_rfl) (by kernel_rfl) hf with ⟨hcs, _⟩ | ⟨x, l, c, A, L, C, Z, hcs, _, hl, hm, _, hr⟩
  · simp at hcs
    obtain ⟨rfl, rfl, rfl⟩ := hcs
    exact ⟨[], TxtL.nil _ _⟩
  · simp at hcs
    obtain ⟨rfl, rfl, rfl⟩ := hcs
    refine ⟨(List.range len).map fun r => bytesOf (Z r) (L r), by simp, hl, by unfold maxLen at hm; omega, fun e => (by cases e), fun ad e => ?_, fun ad e j hj => ?_⟩
    · injection e with e
      subst e
      refine ⟨True.intro, fun hn => ?_⟩
      have h0 := (hr 0 (by omega)).1
      have hlt := block_lt_of_cell h0
      unfold Addr.add at hlt
      simpa using hlt
    · injection e with e
      subst e
      obtain ⟨h1, h2, h3, h4, h5, h6, h7⟩ := hr j (by omega)
      refine ⟨A j, L j, C j, h1, ?_⟩
      have e : ((List.range len).map fun r => bytesOf (Z r) (L r)).getD j [] = bytesOf (Z j) (L j) := by
        rw [List.getD_eq_getElem?_getD, List.getElem?_map, List.getElem?_range hj]; rfl
      rw [e]
      refine txt_of_row ?_
      cases hA : A j with
      | none =>
        have hc0 := h6 hA
        exact .inl ⟨rfl, by omega, hc0, List.eq_nil_of_length_eq_zero (by omega)⟩
      | some a' =>
        exact .inr ⟨a', rfl, h2, h3, h4, fun i hi => (h7 a' hA).2 i (by omega), h5⟩
end Go.Proofs.YtikafijdfgkgkaaDoor.Wr
