/- Memory: a block in which a polynomial's 256 numbers lie; values that are polynomials. -/
import Derived.Test.YtaihlmedeebimaaLgPlain
import Derived.WalkKit
import Derived.Deep.OwnRows
import Derived.Deep.Draws
import Derived.Laws.CopyOwn
import Derived.Deep.WholeRow
namespace Go.Proofs.Ytaihlmedeebimaa.Lg
open Go.RowKit
set_option linter.all false

/-- a value that is an array of 256 numbers -/
def IsP (cs : Array Value) (p : Nat → Int) : Prop := cs.size = 256 ∧ ∀ i, i < 256 → cs[i]? = some (.int .i64 (p i))
def up (f : Nat → F) : Nat → Int := fun i => nv (f i)
def ints (p : Nat → Int) : Nat → Value := fun i => .int .i64 (p i)
theorem up_at (f : Nat → F) (i : Nat) : up f i = nv (f i) := rfl
theorem IsP.size {cs : Array Value} {p : Nat → Int} (h : IsP cs p) : cs.size = 256 := h.1
theorem IsP.congr {cs : Array Value} {p q : Nat → Int} (h : IsP cs p) (e : ∀ i, i < 256 → p i = q i) : IsP cs q := ⟨h.1, fun i hi => by rw [h.2 i hi, e i hi]⟩
theorem IsP.eqv {cs : Array Value} {f g : Nat → F} (h : IsP cs (up f)) (e : Eqv f g) : IsP cs (up g) := h.congr fun i hi => by unfold up; rw [e i hi]
theorem IsP.one {cs ds : Array Value} {p q : Nat → Int} (h : IsP cs p) (k : IsP ds q) (e : ∀ i, i < 256 → p i = q i) : cs = ds := by
  apply Array.ext_getElem?
  intro i
  by_cases hi : i < 256
  · rw [h.2 i hi, k.2 i hi, e i hi]
  · rw [Array.getElem?_eq_none (by rw [h.1]; omega), Array.getElem?_eq_none (by rw [k.1]; omega)]
theorem IsP.same {cs ds : Array Value} {f g : Nat → F} (h : IsP cs (up f)) (k : IsP ds (up g)) (e : Eqv f g) : cs = ds := h.one k fun i hi => by unfold up; rw [e i hi]
theorem IsP.cells {cs : Array Value} {p : Nat → Int} (h : IsP cs p) : cs.all (·.oneCell') = true := by
  rw [Array.all_eq_true]
  intro i hi
  have := h.2 i (by rw [← h.1]; exact hi)
  rw [Array.getElem?_eq_getElem hi] at this
  rw [Option.some.inj this]; rfl
theorem row_of {w : World} {b : Nat} {t : TypeId} {cs : Array Value} {p : Nat → Int} (h : w.heap[b]? = some (.cells cs t (0, 0))) (k : IsP cs p) : w.rowIs b t 256 (ints p) := ⟨cs, h, k.1, k.2⟩
theorem of_row {w : World} {b : Nat} {t : TypeId} {p : Nat → Int} (h : w.rowIs b t 256 (ints p)) : ∃ cs, w.heap[b]? = some (.cells cs t (0, 0)) ∧ IsP cs p := by
  obtain ⟨c, h1, h2, h3⟩ := h
  exact ⟨c, h1, h2, h3⟩
theorem row_set {w : World} {b : Nat} {t : TypeId} {n : Nat} {p : Nat → Int} (h : w.rowIs b t n (ints p)) (i : Nat) (v : Int) : (w.setCell ⟨b, i, none⟩ (.int .i64 v)).rowIs b t n (ints fun j => if j = i then v else p j) :=
  (h.set i _).congr fun j _ => by show (if _ then _ else _) = Value.int .i64 (if _ then _ else _); unfold ints; split <;> rfl
theorem row_is {w : World} {b : Nat} {t : TypeId} {n : Nat} {p q : Nat → Int} (h : w.rowIs b t n (ints p)) (e : ∀ i, i < n → p i = q i) : w.rowIs b t n (ints q) := h.congr fun i hi => by unfold ints; rw [e i hi]
theorem below_at {B : Nat} {w w' : World} (h : Below B w w') {b : Nat} {t : TypeId} {n : Nat} {f : Nat → Value} (k : w.rowIs b t n f) (hb : b < B) : w'.rowIs b t n f := k.of_block (h.block b hb)
theorem rowIs_drewN {w : World} {b : Nat} {t : TypeId} {n : Nat} {f : Nat → Value} (h : w.rowIs b t n f) (k : Nat) : (w.drewN k).rowIs b t n f := h
theorem below_drewN {B : Nat} {a w : World} (h : Below B a w) (n : Nat) : Below B a (w.drewN n) := ⟨h.os, h.tape, h.output, h.size, h.block⟩

/-- an element of an array value whose elements have one cell -/
theorem run_index_one {P : Program} (t e : TypeId) (n : Nat) (d : TypeDesc) (cs : Array Value) (kd : IntKind) (k : Nat) (v : Value) (ht : P.underlying t = some (.array n e)) (he : P.underlying e = some d)
    (hd : (match d with | .struct _ | .array _ _ => true | _ => false) = false) (hs : (P.info? e).map (·.size) = some 1) (hk : k < n) (hv : cs[k]? = some v) (w : World) :
    (Instr.index t (.agg cs) (.int kd (k : Int))).run P w = .ok v w := by
  have ha : ∀ w, (isAgg e).run P w = .ok false w := fun w => by
    unfold isAgg
    rw [Sem.run_bind, run_underlying he w]
    cases d <;> simp_all
  cases hq : P.info? e with
  | none => simp [hq] at hs
  | some i =>
    have hs1 : i.size = 1 := by simpa [hq] using hs
    simp [Instr.index, asIntOf, run_underlying ht, sizeOf, typeInfo, hq, hs1, part, ha, hv, hk]
end Go.Proofs.Ytaihlmedeebimaa.Lg
