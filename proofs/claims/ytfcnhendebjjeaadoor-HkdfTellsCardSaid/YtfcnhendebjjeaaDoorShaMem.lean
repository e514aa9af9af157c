/- Memory: what has turned, rows, tables, slices of bytes; nothing of the program's functions. -/
import Derived.Test.YtfcnhendebjjeaaDoorShaPlain
import Derived.WalkKit
import Derived.Deep.OwnRows
import Derived.Deep.Draws
import Derived.Maps.AppendAt
import Derived.Deep.AppendLies
import Derived.Laws.CopyOwn
import Derived.Deep.WholeRow
namespace Go.Proofs.YtfcnhendebjjeaaDoor.Sha
set_option linter.all false
open Go.RowKit

theorem rowIs_drewN {w : World} {b : Nat} {t : TypeId} {n : Nat} {f : Nat → Value} (h : w.rowIs b t n f) (k : Nat) : (w.drewN k).rowIs b t n f := h
/-- only block b, and what is new, has turned -/
theorem only_drew {a w : World} {row : Option Nat} (h : a.grownBy w row) : a.grownBy w.drew row := ⟨h.os, h.tape, h.output, h.size, h.block⟩
theorem only_drewN {a w : World} {row : Option Nat} (h : a.grownBy w row) (k : Nat) : a.grownBy (w.drewN k) row := ⟨h.os, h.tape, h.output, h.size, h.block⟩
theorem only_alloc {a w : World} {row : Option Nat} (h : a.grownBy w row) (x : Obj) : a.grownBy (w.alloc x) row :=
  ⟨h.os, h.tape, h.output, Nat.le_trans h.size (by simp), fun i hi hne => (Below.heap_alloc w x i (Nat.lt_of_lt_of_le hi h.size)).trans (h.block i hi hne)⟩
theorem only_set {a w : World} {g : Nat} (h : a.grownBy w (some g)) {p : Addr} (hp : p.block = g ∨ a.heap.size ≤ p.block) (u : Value) : a.grownBy (w.setCell p u) (some g) :=
  ⟨h.os, h.tape, h.output, by simpa [World.setCell] using h.size, fun i hi hne => (Below.heap_setCell w p u i (by
    rintro rfl
    rcases hp with hp | hp
    · exact hne (by rw [hp])
    · omega)).trans (h.block i hi hne)⟩
/-- what follows turns block g' alone, which is new since a, or g -/
theorem only_then {a w c : World} {g g' : Nat} (h : a.grownBy w (some g)) (k : w.grownBy c (some g')) (hg : g' = g ∨ a.heap.size ≤ g') : a.grownBy c (some g) :=
  ⟨k.os.trans h.os, k.tape.trans h.tape, k.output.trans h.output, Nat.le_trans h.size k.size, fun i hi hne =>
    (k.block i (Nat.lt_of_lt_of_le hi h.size) (by
      intro e
      injection e with e
      rcases hg with hg | hg
      · exact hne (by rw [e, hg])
      · omega)).trans (h.block i hi hne)⟩
theorem only_of_below {a w : World} (h : Below a.heap.size a w) (row : Option Nat) : a.grownBy w row := ⟨h.os, h.tape, h.output, h.size, fun i hi _ => h.block i hi⟩
theorem only_below {a w c : World} {g : Nat} (h : a.grownBy w (some g)) (k : Below w.heap.size w c) : a.grownBy c (some g) := only_then h (only_of_below k (some g)) (.inl rfl)
theorem only_setRow {a w : World} {g g' : Nat} (h : a.grownBy w (some g)) (hp : g' = g ∨ a.heap.size ≤ g') (cs : Array Value) : a.grownBy (w.setRow g' cs) (some g) :=
  ⟨h.os, h.tape, h.output, by simpa using h.size, fun i hi hne => (setRow_other w g' i cs (by
    rintro rfl
    rcases hp with hp | hp
    · exact hne (by rw [hp])
    · omega)).trans (h.block i hi hne)⟩
theorem below_of_only {w w1 w2 : World} {g : Nat} (h : Below w.heap.size w w1) (k : w1.grownBy w2 (some g)) (hg : w.heap.size ≤ g) : Below w.heap.size w w2 :=
  ⟨k.os.trans h.os, k.tape.trans h.tape, k.output.trans h.output, Nat.le_trans h.size k.size, fun i hi => (k.block i (Nat.lt_of_lt_of_le hi h.size) (by intro e; injection e; omega)).trans (h.block i hi)⟩

/-- an element of an array value whose elements have one cell -/
theorem run_index_one {P : Program} (t e : TypeId) (n : Nat) (d : TypeDesc) (cs : Array Value) (kd : IntKind) (k : Nat) (v : Value) (ht : P.underlying t = some (.array n e)) (he : P.underlying e = some d)
    (hd : (match d with | .struct _ | .array _ _ => true | _ => false) = false) (hs : (P.info? e).map (·.size) = some 1) (hk : k < n) (hv : cs[k]? = some v) (w : World) :
    (Instr.index t (.agg cs) (.int kd (k : Int))).run P w = .ok v w := by
  have ha : ∀ w, (isAgg e).run P w = .ok false w := fun w => by
    unfold isAgg
    rw [Sem.run_bind, run_underlying he w]
    cases d <;> simp_all
  cases hq : P.info? e with
  | none => simp [hq] at hs
  | some i =>
    have hs1 : i.size = 1 := by simpa [hq] using hs
    simp [Instr.index, asIntOf, run_underlying ht, sizeOf, typeInfo, hq, hs1, part, ha, hv, hk]

/-- a table of numbers that lies whole in a block -/
def numsOf (k : IntKind) (l : List Nat) : Array Value := (l.map fun x => Value.int k ((x : Nat) : Int)).toArray
theorem numsOf_at (k : IntKind) (l : List Nat) (i : Nat) (h : i < l.length) : (numsOf k l)[i]? = some (.int k ((gt l i : Nat) : Int)) := by
  simp [numsOf, gt, List.getD_eq_getElem?_getD, h]
theorem numsOf_size (k : IntKind) (l : List Nat) : (numsOf k l).size = l.length := by simp [numsOf]
theorem numsOf_one (k : IntKind) (l : List Nat) : (numsOf k l).all (·.oneCell') = true := by simp [numsOf, Value.oneCell']
def TabAt (w : World) (g : Nat) (k : IntKind) (l : List Nat) : Prop := ∃ t fr, w.heap[g]? = some (.cells (numsOf k l) t fr)
theorem TabAt.cell {w : World} {g : Nat} {k : IntKind} {l : List Nat} (h : TabAt w g k l) (i : Nat) (hi : i < l.length) : w.cell? ⟨g, i, none⟩ = some (.int k ((gt l i : Nat) : Int)) := by
  obtain ⟨t, fr, h⟩ := h
  rw [cell_of_row w g i _ t fr h, numsOf_at k l i hi]
theorem TabAt.of_block {w w' : World} {g : Nat} {k : IntKind} {l : List Nat} (h : TabAt w g k l) (e : w'.heap[g]? = w.heap[g]?) : TabAt w' g k l := by
  obtain ⟨t, fr, h⟩ := h
  exact ⟨t, fr, e.trans h⟩
theorem TabAt.lt {w : World} {g : Nat} {k : IntKind} {l : List Nat} (h : TabAt w g k l) : g < w.heap.size := by
  obtain ⟨t, fr, h⟩ := h
  obtain ⟨hlt, _⟩ := Array.getElem?_eq_some_iff.1 h
  exact hlt
/-- the two tables of the package, as they lie -/
structure Tables (w : World) : Prop where
  first : TabAt w 0 .u32 firstT
  rounds : TabAt w 1 .u32 consT
theorem Tables.keep {w w' : World} (h : Tables w) (e : ∀ g, g < 2 → w'.heap[g]? = w.heap[g]?) : Tables w' :=
  ⟨h.first.of_block (e _ (by decide)), h.rounds.of_block (e _ (by decide))⟩
theorem Tables.lt {w : World} (h : Tables w) : 2 ≤ w.heap.size := by
  have h1 := h.first.lt; have h2 := h.rounds.lt; omega
theorem Tables.grown {w w' : World} {b : Nat} (h : Tables w) (hg : w.grownBy w' (some b)) (hb : 2 ≤ b) : Tables w' :=
  h.keep fun g hlt => hg.block g (by have := h.lt; omega) (by intro e; injection e; omega)
theorem Tables.below {w w' : World} {B : Nat} (h : Tables w) (hg : Below B w w') (hb : 2 ≤ B) : Tables w' := h.keep fun g hlt => hg.block g (by omega)
theorem Tables.alloc {w : World} (h : Tables w) (o : Obj) : Tables (w.alloc o) := h.keep fun g hlt => Below.heap_alloc w o g (by have := h.lt; omega)
theorem Tables.drew {w : World} (h : Tables w) : Tables w.drew := h.keep fun _ _ => rfl
theorem Tables.drewN {w : World} (h : Tables w) (n : Nat) : Tables (w.drewN n) := h.keep fun _ _ => rfl
theorem Tables.set {w : World} (h : Tables w) {a : Addr} (ha : 2 ≤ a.block) (v : Value) : Tables (w.setCell a v) := h.keep fun g hlt => Below.heap_setCell w a v g (by omega)

/-- words in a block -/
def wordRow (k : IntKind) (ws : List Nat) : Nat → Value := fun i => .int k ((gt ws i : Nat) : Int)
theorem heap_words {w : World} {g n : Nat} {t : TypeId} {k : IntKind} {ws : List Nat} (h : w.rowIs g t n (wordRow k ws)) (hl : ws.length = n) : w.heap[g]? = some (.cells (numsOf k ws) t (0, 0)) := by
  obtain ⟨c, hc, hs, hi⟩ := h
  have e : c = numsOf k ws := by
    apply Array.ext_getElem?
    intro i
    by_cases h : i < n
    · rw [hi i h, numsOf_at k ws i (by omega)]; rfl
    · rw [Array.getElem?_eq_none (by omega), Array.getElem?_eq_none (by rw [numsOf_size]; omega)]
  rw [hc, e]
theorem rowIs_words {w : World} {g n : Nat} {t : TypeId} {k : IntKind} {ws : List Nat} (h : w.heap[g]? = some (.cells (numsOf k ws) t (0, 0))) (hl : ws.length = n) : w.rowIs g t n (wordRow k ws) :=
  ⟨numsOf k ws, h, by rw [numsOf_size, hl], fun i hi => numsOf_at k ws i (by omega)⟩
theorem row_set {w : World} {g n : Nat} {t : TypeId} {k : IntKind} {ws : List Nat} (h : w.rowIs g t n (wordRow k ws)) (hl : ws.length = n) (i v : Nat) (hi : i < n) :
    (w.setCell ⟨g, i, none⟩ (.int k ((v : Nat) : Int))).rowIs g t n (wordRow k (ws.set i v)) := by
  refine (h.set i _).congr fun j _ => ?_
  unfold wordRow
  rw [gt_set _ _ _ _ (by omega)]
  split <;> rfl
theorem row_setZ {w : World} {g n : Nat} {t : TypeId} {k : IntKind} {ws : List Nat} (h : w.rowIs g t n (wordRow k ws)) (hl : ws.length = n) (i v : Nat) (hi : i < n) {j : Nat} (hj : j = i) {z : Int} (hz : z = (v : Int)) :
    (w.setCell ⟨g, j, none⟩ (.int k z)).rowIs g t n (wordRow k (ws.set i v)) := by
  subst hj hz; exact row_set h hl _ v hi

/-- a slice of bytes that lies below block B, nil let in -/
def Rd (w : World) (B : Nat) (A : Option Addr) (bs : List Nat) : Prop :=
  (∀ j, gt bs j < 256) ∧ (0 < bs.length → ∃ ad : Addr, A = some ad ∧ ad.block < B ∧ ∀ j, j < bs.length → w.cell? (ad.add j) = some (.int .u8 (gt bs j : Nat)))
theorem Rd.keep {w w' : World} {B : Nat} {A : Option Addr} {bs : List Nat} (h : Rd w B A bs) (e : ∀ p : Addr, p.block < B → w'.cell? p = w.cell? p) : Rd w' B A bs := by
  refine ⟨h.1, fun hn => ?_⟩
  obtain ⟨ad, h1, h2, h3⟩ := h.2 hn
  refine ⟨ad, h1, h2, fun j hj => ?_⟩
  rw [e _ (by unfold Addr.add; split <;> exact h2)]
  exact h3 j hj
theorem Rd.grown {w w' : World} {B g : Nat} {A : Option Addr} {bs : List Nat} (h : Rd w B A bs) (hg : w.grownBy w' (some g)) (hB : B ≤ g) (hw : B ≤ w.heap.size) : Rd w' B A bs :=
  h.keep fun p hp => World.cell?_of_block (hg.block p.block (by omega) (by intro e; injection e; omega))
theorem Rd.below {w w' : World} {B : Nat} {A : Option Addr} {bs : List Nat} (h : Rd w B A bs) (hg : Below B w w') : Rd w' B A bs := h.keep fun _ hp => hg.cell hp
theorem Rd.more {w : World} {B B' : Nat} {A : Option Addr} {bs : List Nat} (h : Rd w B A bs) (hB : B ≤ B') : Rd w B' A bs := by
  refine ⟨h.1, fun hn => ?_⟩
  obtain ⟨ad, h1, h2, h3⟩ := h.2 hn
  exact ⟨ad, h1, by omega, h3⟩
theorem Rd.nil (w : World) (B : Nat) (A : Option Addr) : Rd w B A [] := ⟨fun _ => by simp [gt], fun h => absurd h (by simp)⟩

end Go.Proofs.YtfcnhendebjjeaaDoor.Sha
