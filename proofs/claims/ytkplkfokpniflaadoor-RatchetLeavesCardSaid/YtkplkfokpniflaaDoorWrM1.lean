/- Memory and slices of bytes: what lies below, rows of one's own, appends, strings; nothing of any program's functions. Plain mathematics of wire: numbers', lengths', texts' and lists' bytes; what is read; there and back; one way alone; no beginning of another. Texts and lists of texts that lie in memory; the package's table. Walks: isPlace, isSize, Number. Walks: GetNumber. Walks: lengthBytes. Walks: Grow, Concat, Text. The document's own: Number, GetNumber. -/
import Derived.Test.YtkplkfokpniflaaDoorChecked
import Derived.WalkKit
import Derived.IntWalk
import Derived.Deep.OwnRows
import Derived.Deep.Draws
import Derived.Maps.AppendAt
import Derived.Deep.AppendLies
import Derived.Deep.WholeRow
import Derived.Deep.RegionLaw
import Derived.Deep.RegionHeld3
import Derived.Deep.DrawnRows
import Derived.StillTailTactics
import Derived.Laws.OwnMore
import Derived.Laws.AppendOwnNone
import Derived.Laws.BytesArg
import Derived.Laws.CopyOwn
import Derived.Laws.BitsAllLaws
import Derived.Laws.Shifts
import Derived.Lib.SlBytesConst
import Derived.Lib.Hide
import Derived.Lib.SliceRun
import Derived.Lib.AppendZerosOnto
namespace Go.Proofs.YtkplkfokpniflaaDoor.Wr
set_option linter.all false
open Go.RowKit

def gt (ws : List Nat) (i : Nat) : Nat := ws.getD i 0
def tab (n : Nat) (g : Nat → Nat) : List Nat := (List.range n).map g
theorem gt_set (ws : List Nat) (i j v : Nat) (h : i < ws.length) : gt (ws.set i v) j = if j = i then v else gt ws j := by
  unfold gt
  rw [List.getD_eq_getElem?_getD, List.getD_eq_getElem?_getD, List.getElem?_set]
  by_cases e : i = j
  · subst e; simp [h]
  · rw [if_neg e, if_neg (fun x => e x.symm)]
theorem gt_tab (n : Nat) (g : Nat → Nat) (i : Nat) (h : i < n) : gt (tab n g) i = g i := by
  unfold gt tab
  rw [List.getD_eq_getElem?_getD, List.getElem?_map, List.getElem?_range h]; rfl
theorem gt_ge (ws : List Nat) (i : Nat) (h : ws.length ≤ i) : gt ws i = 0 := by
  unfold gt
  rw [List.getD_eq_getElem?_getD, List.getElem?_eq_none h]; rfl
theorem tab_len (n : Nat) (g : Nat → Nat) : (tab n g).length = n := by simp [tab]
theorem ext_gt {n : Nat} {a b : List Nat} (ha : a.length = n) (hb : b.length = n) (h : ∀ i, i < n → gt a i = gt b i) : a = b := by
  apply List.ext_getElem (by rw [ha, hb])
  intro i h1 h2
  have := h i (by omega)
  unfold gt at this
  rwa [List.getD_eq_getElem?_getD, List.getD_eq_getElem?_getD, List.getElem?_eq_getElem h1, List.getElem?_eq_getElem h2] at this
theorem gt_mem {l : List Nat} {i : Nat} (h : i < l.length) : gt l i ∈ l := by
  unfold gt
  rw [List.getD_eq_getElem?_getD, List.getElem?_eq_getElem h]; exact List.getElem_mem _
theorem gt_append (a b : List Nat) (j : Nat) : gt (a ++ b) j = if j < a.length then gt a j else gt b (j - a.length) := by
  unfold gt
  rw [List.getD_eq_getElem?_getD, List.getElem?_append]
  split
  · rw [List.getD_eq_getElem?_getD]
  · rw [List.getD_eq_getElem?_getD]
theorem gt_cons_zero (x : Nat) (l : List Nat) : gt (x :: l) 0 = x := rfl
theorem gt_cons_succ (x : Nat) (l : List Nat) (i : Nat) : gt (x :: l) (i + 1) = gt l i := rfl
theorem gt_take (l : List Nat) (k i : Nat) (h : i < k) : gt (l.take k) i = gt l i := by
  unfold gt; rw [List.getD_eq_getElem?_getD, List.getD_eq_getElem?_getD, List.getElem?_take_of_lt h]
def bcells (bs : List Nat) : List Value := bs.map fun x => Value.int .u8 ((x : Nat) : Int)
theorem bcells_len (bs : List Nat) : (bcells bs).length = bs.length := by simp [bcells]
theorem bcells_one (bs : List Nat) : ∀ u ∈ bcells bs, u.oneCell' = true := by
  intro u hu
  obtain ⟨x, _, rfl⟩ := List.mem_map.1 hu
  rfl
theorem bcells_at (bs : List Nat) (i : Nat) (h : i < bs.length) : (bcells bs)[i]? = some (.int .u8 ((gt bs i : Nat) : Int)) := by
  simp [bcells, gt, List.getD_eq_getElem?_getD, h]
theorem rowIs_drewN {w : World} {b : Nat} {t : TypeId} {n : Nat} {f : Nat → Value} (h : w.rowIs b t n f) (k : Nat) : (w.drewN k).rowIs b t n f := h
/-- only block b, and what is new, has turned -/
theorem only_drew {a w : World} {row : Option Nat} (h : a.grownBy w row) : a.grownBy w.drew row := ⟨h.os, h.tape, h.output, h.size, h.block⟩
theorem only_drewN {a w : World} {row : Option Nat} (h : a.grownBy w row) (k : Nat) : a.grownBy (w.drewN k) row := ⟨h.os, h.tape, h.output, h.size, h.block⟩
theorem only_alloc {a w : World} {row : Option Nat} (h : a.grownBy w row) (x : Obj) : a.grownBy (w.alloc x) row :=
  ⟨h.os, h.tape, h.output, Nat.le_trans h.size (by simp), fun i hi hne => (Below.heap_alloc w x i (Nat.lt_of_lt_of_le hi h.size)).trans (h.block i hi hne)⟩
theorem only_set {a w : World} {g : Nat} (h : a.grownBy w (some g)) {p : Addr} (hp : p.block = g ∨ a.heap.size ≤ p.block) (u : Value) : a.grownBy (w.setCell p u) (some g) :=
  ⟨h.os, h.tape, h.output, by simpa [World.setCell] using h.size, fun i hi hne => (Below.heap_setCell w p u i (by
    rintro rfl
    rcases hp with hp | hp
    · exact hne (by rw [hp])
    · omega)).trans (h.block i hi hne)⟩
/-- what follows turns block g' alone, which is new since a, or g -/
theorem only_then {a w c : World} {g g' : Nat} (h : a.grownBy w (some g)) (k : w.grownBy c (some g')) (hg : g' = g ∨ a.heap.size ≤ g') : a.grownBy c (some g) :=
  ⟨k.os.trans h.os, k.tape.trans h.tape, k.output.trans h.output, Nat.le_trans h.size k.size, fun i hi hne =>
    (k.block i (Nat.lt_of_lt_of_le hi h.size) (by
      intro e
      injection e with e
      rcases hg with hg | hg
      · exact hne (by rw [e, hg])
      · omega)).trans (h.block i hi hne)⟩
theorem only_of_below {a w : World} (h : Below a.heap.size a w) (row : Option Nat) : a.grownBy w row := ⟨h.os, h.tape, h.output, h.size, fun i hi _ => h.block i hi⟩
theorem only_below {a w c : World} {g : Nat} (h : a.grownBy w (some g)) (k : Below w.heap.size w c) : a.grownBy c (some g) := only_then h (only_of_below k (some g)) (.inl rfl)
theorem below_of_only {w w1 w2 : World} {g : Nat} (h : Below w.heap.size w w1) (k : w1.grownBy w2 (some g)) (hg : w.heap.size ≤ g) : Below w.heap.size w w2 :=
  ⟨k.os.trans h.os, k.tape.trans h.tape, k.output.trans h.output, Nat.le_trans h.size k.size, fun i hi => (k.block i (Nat.lt_of_lt_of_le hi h.size) (by intro e; injection e; omega)).trans (h.block i hi)⟩
/-- words in a block -/
def wordRow (k : IntKind) (ws : List Nat) : Nat → Value := fun i => .int k ((gt ws i : Nat) : Int)
theorem row_set {w : World} {g n : Nat} {t : TypeId} {k : IntKind} {ws : List Nat} (h : w.rowIs g t n (wordRow k ws)) (hl : ws.length = n) (i v : Nat) (hi : i < n) :
    (w.setCell ⟨g, i, none⟩ (.int k ((v : Nat) : Int))).rowIs g t n (wordRow k (ws.set i v)) := by
  refine (h.set i _).congr fun j _ => ?_
  unfold wordRow
  rw [gt_set _ _ _ _ (by omega)]
  split <;> rfl
theorem row_setZ {w : World} {g n : Nat} {t : TypeId} {k : IntKind} {ws : List Nat} (h : w.rowIs g t n (wordRow k ws)) (hl : ws.length = n) (i v : Nat) (hi : i < n) {j : Nat} (hj : j = i) {z : Int} (hz : z = (v : Int)) :
    (w.setCell ⟨g, j, none⟩ (.int k z)).rowIs g t n (wordRow k (ws.set i v)) := by
  subst hj hz; exact row_set h hl _ v hi
/-- a slice of bytes that lies below block B, nil let in -/
def Rd (w : World) (B : Nat) (A : Option Addr) (bs : List Nat) : Prop :=
  (∀ j, gt bs j < 256) ∧ (0 < bs.length → ∃ ad : Addr, A = some ad ∧ ad.block < B ∧ ∀ j, j < bs.length → w.cell? (ad.add j) = some (.int .u8 (gt bs j : Nat)))
theorem Rd.keep {w w' : World} {B : Nat} {A : Option Addr} {bs : List Nat} (h : Rd w B A bs) (e : ∀ p : Addr, p.block < B → w'.cell? p = w.cell? p) : Rd w' B A bs := by
  refine ⟨h.1, fun hn => ?_⟩
  obtain ⟨ad, h1, h2, h3⟩ := h.2 hn
  refine ⟨ad, h1, h2, fun j hj => ?_⟩
  rw [e _ (by unfold Addr.add; split <;> exact h2)]
  exact h3 j hj
theorem Rd.grown {w w' : World} {B g : Nat} {A : Option Addr} {bs : List Nat} (h : Rd w B A bs) (hg : w.grownBy w' (some g)) (hB : B ≤ g) (hw : B ≤ w.heap.size) : Rd w' B A bs :=
  h.keep fun p hp => World.cell?_of_block (hg.block p.block (by omega) (by intro e; injection e; omega))
theorem Rd.below {w w' : World} {B : Nat} {A : Option Addr} {bs : List Nat} (h : Rd w B A bs) (hg : Below B w w') : Rd w' B A bs := h.keep fun _ hp => hg.cell hp
theorem Rd.more {w : World} {B B' : Nat} {A : Option Addr} {bs : List Nat} (h : Rd w B A bs) (hB : B ≤ B') : Rd w B' A bs := by
  refine ⟨h.1, fun hn => ?_⟩
  obtain ⟨ad, h1, h2, h3⟩ := h.2 hn
  exact ⟨ad, h1, by omega, h3⟩
theorem Rd.nil (w : World) (B : Nat) (A : Option Addr) : Rd w B A [] := ⟨fun _ => by simp [gt], fun h => absurd h (by simp)⟩
def byteRow (bs : List Nat) : Nat → Value := wordRow .u8 bs
theorem bcells_append (a b : List Nat) : bcells (a ++ b) = bcells a ++ bcells b := by simp [bcells]
/-- bytes as a string -/
def txt (bs : List Nat) : ByteArray := strOfNums (bs.map fun x => ((x : Nat) : Int))
theorem own_of_row {w : World} {h n base : Nat} {bs : List Nat} (hrow : w.rowIs h 5 n (byteRow bs)) (hn : bs.length = n) (hm : n ≤ maxLen) (hb : base ≤ h) :
    w.ownsRow base 5 1 (.slice (some ⟨h, 0, none⟩) n n) n (bcells bs) := by
  obtain ⟨c, hc, hs, hi⟩ := hrow
  refine ⟨by rw [bcells_len]; omega, .inr ⟨h, n, c, rfl, hb, hc, Nat.le_refl _, hm, by omega, ?_⟩⟩
  apply List.ext_getElem?
  intro i
  by_cases hin : i < n
  · rw [bcells_at bs i (by omega), List.getElem?_take_of_lt (by omega), Array.getElem?_toList, hi i hin]; rfl
  · rw [List.getElem?_eq_none (by simp; omega), List.getElem?_eq_none (by rw [bcells_len]; omega)]
/-- a region that is shown not to panic -/
theorem region_calm {P : Program} {id : Nat} {ops : Array Oper} {b : Bool} {Q : Exit → Act → World → Prop} {a : Act} {w : World}
    (h : (Code.region id ops b).wp P (fun e a w => match e with | .panic _ => False | e => Q e a w) a w) : (Code.region id ops b).wp P Q a w :=
  Code.wp_mono (fun e a w h => by cases e <;> first | exact h | exact (h : False).elim) h
theorem byteInfo : ∃ i : TypeInfo, Tryd.prog.info? 5 = some i ∧ i.zero = some (.int .u8 0) ∧ i.size = 1 ∧ i.bytes = 1 := by
  have h : (Tryd.prog.info? 5).map (fun i => (i.zero, i.size, i.bytes)) = some (some (.int .u8 0), 1, 1) := by kernel_rfl
  obtain ⟨i, hi, e⟩ := Option.map_eq_some_iff.1 h
  simp only [Prod.mk.injEq] at e
  exact ⟨i, hi, e.1, e.2.1, e.2.2⟩
theorem news_of_rd {w : World} {B : Nat} {ad : Addr} {ys : List Nat} (h : Rd w B (some ad) ys) : ∀ j u, (bcells ys)[j]? = some u → w.cell? (ad.add j) = some u := by
  intro j u hu
  have hj : j < ys.length := by
    rcases Nat.lt_or_ge j ys.length with h | h
    · exact h
    · rw [List.getElem?_eq_none (by rw [bcells_len]; omega)] at hu; cases hu
  obtain ⟨ad', e, _, hc⟩ := h.2 (by omega)
  injection e with e
  subst e
  rw [bcells_at ys j hj] at hu
  rw [hc j hj, ← hu]
theorem rd_of_own {w : World} {base g n cap B : Nat} {xs : List Nat} (hown : w.ownsRow base 5 1 (.slice (some ⟨g, 0, none⟩) n cap) n (bcells xs)) (hx : ∀ j, gt xs j < 256) (hB : w.heap.size ≤ B) : Rd w B (some ⟨g, 0, none⟩) xs := by
  have hl : xs.length = n := by have := hown.1; rw [bcells_len] at this; omega
  have hlt : g < w.heap.size := (hown.lt g rfl).2
  refine ⟨hx, fun _ => ⟨_, rfl, by show g < B; omega, fun j hj => ?_⟩⟩
  have ha : (⟨g, 0, none⟩ : Addr).add j = ⟨g, j, none⟩ := by unfold Addr.add; split <;> simp_all
  rw [ha, hown.cellAt j (by omega), bcells_at xs j hj]
theorem gt_append_lt {a b : List Nat} (ha : ∀ j, gt a j < 256) (hb : ∀ j, gt b j < 256) : ∀ j, gt (a ++ b) j < 256 := by
  intro j
  have h1 := ha j; have h2 := hb (j - a.length)
  unfold gt at *
  rw [List.getD_eq_getElem?_getD, List.getElem?_append]
  split
  · rwa [List.getD_eq_getElem?_getD] at h1
  · rwa [List.getD_eq_getElem?_getD] at h2
theorem gt_lt_of_mem {a : List Nat} (h : ∀ x ∈ a, x < 256) : ∀ j, gt a j < 256 := by
  intro j
  unfold gt
  rw [List.getD_eq_getElem?_getD]
  by_cases hj : j < a.length
  · rw [List.getElem?_eq_getElem hj]; exact h _ (List.getElem_mem _)
  · rw [List.getElem?_eq_none (by omega)]; decide
theorem rd_of_rowIs {w : World} {h n B : Nat} {bs : List Nat} (hrow : w.rowIs h 5 n (byteRow bs)) (hn : bs.length = n) (hx : ∀ j, gt bs j < 256) (hB : w.heap.size ≤ B) : Rd w B (some ⟨h, 0, none⟩) bs := by
  have hlt := hrow.lt
  refine ⟨hx, fun _ => ⟨_, rfl, by show h < B; omega, fun j hj => ?_⟩⟩
  have ha : (⟨h, 0, none⟩ : Addr).add j = ⟨h, j, none⟩ := by unfold Addr.add; split <;> simp_all
  rw [ha, hrow.cell (by omega)]; rfl
theorem own_cap {w : World} {base h n cap : Nat} {xs : List Value} (h1 : w.ownsRow base 5 1 (.slice (some ⟨h, 0, none⟩) n cap) n xs) : n ≤ cap ∧ cap ≤ maxLen := by
  rcases h1.2 with ⟨e, _⟩ | ⟨g, c, cur, e, _, _, h2, h3, _⟩
  · cases e
  · injection e with _ _ e3
    subst e3
    exact ⟨h2, h3⟩
theorem wpAnyH_more {P : Program} {md : Region.Mode} {ops : Array Oper} {Q : Exit → Act → World → Prop} {S S' : World → Prop} (h : ∀ w, S' w → S w) : ∀ (fuel : Nat) (listed : Array Bool) (a : Act) (w : World), wpAnyH P md ops Q S' fuel listed a w → wpAnyH P md ops Q S fuel listed a w
  | 0, _, _, _, h' => h'
  | fuel + 1, _, _, _, h' => ⟨h'.1, fun i hi => wpOp_mono (fun a' w' k => ⟨h _ k.1, wpAnyH_more h fuel _ a' w' k.2⟩) (h'.2 i hi)⟩
theorem own_below {w w' : World} {base B g n cap : Nat} {xs : List Value} (h : w.ownsRow base 5 1 (.slice (some ⟨g, 0, none⟩) n cap) n xs) (hb : Below B w w') (hB : w.heap.size ≤ B) : w'.ownsRow base 5 1 (.slice (some ⟨g, 0, none⟩) n cap) n xs :=
  h.kept ⟨hb.os, hb.tape, hb.output, hb.size, fun i hi _ => hb.block i (by omega)⟩ (.inr (by simp [Value.ownBlock] : Value.ownBlock _ ≠ none))
def Bytes (w : World) (g n : Nat) : Prop := ∃ cur : Array Value, w.heap[g]? = some (.cells cur 5 (0, 0)) ∧ ∀ i, i < n → ∃ z : Int, cur[i]? = some (.int .u8 z)
theorem Bytes.cell {w : World} {g n : Nat} (h : Bytes w g n) (i : Nat) (hi : i < n) : ∃ z : Int, w.cell? ⟨g, i, none⟩ = some (.int .u8 z) := by
  obtain ⟨cur, h1, h2⟩ := h
  obtain ⟨z, hz⟩ := h2 i hi
  exact ⟨z, by rw [cell_of_row w g i cur 5 (0, 0) h1, hz]⟩
theorem Bytes.frozen {w : World} {g n : Nat} (h : Bytes w g n) (i : Nat) : w.frozen? ⟨g, i, none⟩ = false := by
  obtain ⟨cur, h1, _⟩ := h
  simp [World.frozen?, h1]
theorem Bytes.set {w : World} {g n : Nat} (h : Bytes w g n) (i : Nat) (z : Int) : Bytes (w.setCell ⟨g, i, none⟩ (.int .u8 z)) g n := by
  obtain ⟨cur, h1, h2⟩ := h
  refine ⟨cur.setIfInBounds i (.int .u8 z), ?_, fun j hj => ?_⟩
  · rw [setCell_eq_setRow w g i cur 5 (0, 0) (.int .u8 z) h1]
    exact setRow_heap w g _ _ 5 _ h1
  · obtain ⟨y, hy⟩ := h2 j hj
    rw [Array.getElem?_setIfInBounds]
    by_cases e : i = j
    · subst e
      have : i < cur.size := by
        rcases Nat.lt_or_ge i cur.size with h | h
        · exact h
        · rw [Array.getElem?_eq_none h] at hy; cases hy
      exact ⟨z, by simp [this]⟩
    · exact ⟨y, by rw [if_neg e]; exact hy⟩
theorem Bytes.drew {w : World} {g n : Nat} (h : Bytes w g n) : Bytes w.drew g n := h
theorem bytes_of_own {w : World} {base g n cap : Nat} {xs : List Nat} (h : w.ownsRow base 5 1 (.slice (some ⟨g, 0, none⟩) n cap) n (bcells xs)) : Bytes w g n := by
  have hl : xs.length = n := by have := h.1; rw [bcells_len] at this; omega
  rcases h.2 with ⟨e, _⟩ | ⟨g', c, cur, e, _, hc, _, _, hs, ht⟩
  · cases e
  · injection e with e1 _ _
    have e2 : (⟨g, 0, none⟩ : Addr) = ⟨g', 0, none⟩ := Option.some.inj e1
    injection e2 with e3
    subst e3
    refine ⟨cur, hc, fun i hi => ⟨(gt xs i : Nat), ?_⟩⟩
    have h5 := bcells_at xs i (by omega)
    rw [← ht, Nat.mul_one, List.getElem?_take_of_lt hi, Array.getElem?_toList] at h5
    exact h5
theorem own_slice {w : World} {base n : Nat} {v : Value} {xs : List Nat} (h : w.ownsRow base 5 1 v n (bcells xs)) (hx : ∀ j, gt xs j < 256) :
    ∃ (A : Option Addr) (c : Nat), v = .slice A n c ∧ (A = none → c = 0) ∧ n ≤ c ∧ c ≤ 9223372036854775807 ∧ Rd w w.heap.size A xs ∧ xs.length = n ∧ (∀ g, Value.ownBlock v = some g → base ≤ g ∧ g < w.heap.size) := by
  have hl : xs.length = n := by have := h.1; rw [bcells_len] at this; omega
  have h' := h
  rcases h.2 with ⟨e, h0⟩ | ⟨g, c, cur, e, hb, hc, h1, h2, _⟩
  · subst e h0
    have hx0 : xs = [] := List.eq_nil_of_length_eq_zero hl
    subst hx0
    exact ⟨none, 0, rfl, fun _ => rfl, by omega, by omega, Rd.nil _ _ _, rfl, fun g e => by cases e⟩
  · subst e
    refine ⟨some ⟨g, 0, none⟩, c, rfl, fun e => (by cases e), h1, h2, rd_of_own h' hx (Nat.le_refl _), hl, fun g' e => ?_⟩
    have e' : g = g' := Option.some.inj e
    subst e'
    exact h'.lt g rfl
theorem nil_own (w : World) {base : Nat} (h : base ≤ w.heap.size) : (w.alloc (.cells #[] 5)).ownsRow base 5 1 (.slice (some ⟨w.heap.size, 0, none⟩) 0 0) 0 (bcells []) := World.ownsRow_made w #[] 0 h (by unfold maxLen; omega) rfl
theorem foldl_push (ns : List Int) : ∀ r : ByteArray, ns.foldl (fun r n => r.push (UInt8.ofNat n.toNat)) r = ⟨r.data ++ (ns.map fun n => UInt8.ofNat n.toNat).toArray⟩ := by
  induction ns with
  | nil => intro r; simp
  | cons n ns ih => intro r; rw [List.foldl_cons, ih]; simp [ByteArray.push]
theorem conv_rd {w : World} {B : Nat} {A : Option Addr} {bs : List Nat} {n c : Nat} (hR : Rd w B A bs) (hn : bs.length = n) :
    (convert 22 9 (.slice A n c)).run Tryd.prog w = .ok (.string (txt bs)) w := by
  rw [run_convert_bytes_string w 22 9 5 A n c Tryd.underlying22 Tryd.underlying5 Tryd.underlying9]
  cases A with
  | none =>
    have h0 : n = 0 := by
      rcases Nat.eq_zero_or_pos n with h | h
      · exact h
      · obtain ⟨ad, e, _⟩ := hR.2 (by omega)
        cases e
    subst h0
    obtain rfl : bs = [] := List.eq_nil_of_length_eq_zero hn
    simp [Conv.bytesToString]
    rfl
  | some ad =>
    have hl : (loadCells ad n).run Tryd.prog w = .ok ((bs.map fun x => ((x : Nat) : Int)).map (Value.int .u8)).toArray w := by
      have := run_loadCells_list (P := Tryd.prog) w ad (bcells bs) (fun j v hv => news_of_rd hR j v hv)
      rw [bcells_len, hn] at this
      rw [this, List.map_map]; rfl
    rw [run_bytesToString w ad n c _ hl, foldl_push]
    simp [txt, strOfNums]
theorem own_down {w : World} {base base' n : Nat} {v : Value} {xs : List Value} (h : w.ownsRow base 5 1 v n xs) (hb : base' ≤ base) : w.ownsRow base' 5 1 v n xs := by
  refine ⟨h.1, ?_⟩
  rcases h.2 with h2 | ⟨g, c, cur, he, hbase, rest⟩
  · exact .inl h2
  · exact .inr ⟨g, c, cur, he, by omega, rest⟩
theorem Bytes.grown {w w' : World} {g g' n : Nat} (h : Bytes w g n) (hg : w.grownBy w' (some g')) (hne : g ≠ g') : Bytes w' g n := by
  obtain ⟨cur, h1, h2⟩ := h
  have hlt : g < w.heap.size := (Array.getElem?_eq_some_iff.1 h1).1
  exact ⟨cur, (hg.block g hlt (by intro e; injection e; omega)).trans h1, h2⟩
/-- append, of any length that may be -/
theorem run_append_big {w : World} (base g n cap m c B : Nat) (ty : TypeId) (xs ys : List Nat) (A : Option Addr)
    (hown : w.ownsRow base 5 1 (.slice (some ⟨g, 0, none⟩) n cap) n (bcells xs)) (hR : Rd w B A ys) (hm : ys.length = m) (hc : A = none → c = 0) (hbd : n + m ≤ 140737488355328) (hbase : base ≤ w.heap.size) :
    ∃ g' cap' w', (Builtin.append_ #[22, 22] ty #[.slice (some ⟨g, 0, none⟩) n cap, .slice A m c]).run Tryd.prog w = .ok (.slice (some ⟨g', 0, none⟩) (n + m) cap') w' ∧
      w'.ownsRow base 5 1 (.slice (some ⟨g', 0, none⟩) (n + m) cap') (n + m) (bcells (xs ++ ys)) ∧ w.grownBy w' (some g) ∧ (g' = g ∨ g' = w.heap.size) := by
  obtain ⟨i, hi, hz, hsz, hby⟩ := byteInfo
  cases A with
  | none =>
    have h0 : m = 0 := by
      rcases Nat.eq_zero_or_pos m with h | h
      · exact h
      · obtain ⟨ad, e, _⟩ := hR.2 (by omega)
        cases e
    have hy : ys = [] := List.eq_nil_of_length_eq_zero (by omega)
    have hc0 := hc rfl
    subst h0 hy hc0
    exact ⟨g, cap, w, run_append_owned_none (P := Tryd.prog) (w := w) base 22 ty 5 i 1 Tryd.underlying22 hi _ n (bcells xs) hown, by simpa using hown, World.grownBy.refl _ _, .inl rfl⟩
  | some ad =>
    obtain ⟨v', w', hrun, h1, h2, h3, h4⟩ := run_append_own_at (P := Tryd.prog) w base 22 ty 5 i (.int .u8 0) 1 1 Tryd.underlying22 hi hz hsz hby rfl (by omega) _ n (bcells xs) hown ad m c (bcells ys) (by rw [bcells_len]; omega)
      (news_of_rd hR) (bcells_one ys) (by unfold maxLen; omega) (by omega) hbase
    rw [← bcells_append] at h1
    have hne : v' ≠ .slice none 0 0 := fun e => by have := (h3.1 e).1; cases this
    rcases h1.2 with ⟨e, _⟩ | ⟨g', cap', cur, e, _⟩
    · exact absurd e hne
    · subst e
      refine ⟨g', cap', w', hrun, h1, h2, ?_⟩
      rcases h4 with h4 | h4
      · exact .inl (Option.some.inj h4)
      · exact .inr (Option.some.inj h4)
theorem wpList_append_big {ops : Array Oper} {rest : List Oper} {o : Oper} {a : Act} {w : World} {Q : Exit → Act → World → Prop} (hw : Region.wanted o (yielded ops a.tmps) = true) (s x : Operand)
    (ho : o.op = .call { callee := .builtin .append, args := #[s, x], argTypes := #[22, 22] }) (base g n cap m c B : Nat) (xs ys : List Nat) (A : Option Addr)
    (hs : a.eval s = .slice (some ⟨g, 0, none⟩) n cap) (hx : a.eval x = .slice A m c)
    (hown : w.ownsRow base 5 1 (.slice (some ⟨g, 0, none⟩) n cap) n (bcells xs)) (hR : Rd w B A ys) (hm : ys.length = m) (hc : A = none → c = 0) (hbd : n + m ≤ 140737488355328) (hbase : base ≤ w.heap.size)
    (k : ∀ g' cap' w', w'.ownsRow base 5 1 (.slice (some ⟨g', 0, none⟩) (n + m) cap') (n + m) (bcells (xs ++ ys)) → w.grownBy w' (some g) → (g' = g ∨ g' = w.heap.size) → wpList Tryd.prog ops Q rest (a.put o.dst (.slice (some ⟨g', 0, none⟩) (n + m) cap')) w') :
    wpList Tryd.prog ops Q (o :: rest) a w := by
  obtain ⟨g', cap', w', hrun, h1, h2, h3⟩ := run_append_big base g n cap m c B o.type xs ys A hown hR hm hc hbd hbase
  unfold wpList
  rw [if_pos hw]
  refine .inl ?_
  unfold Oper.wp execOp
  simp only [ho, resolve, invoke, builtin, Sem.run_bind, Sem.run_pure, Result.andThen_ok, List.map_toArray, List.map_cons, List.map_nil, hs, hx, hrun]
  exact k g' cap' w' h1 h2 h3
/-- one byte of a row of one's own is another one -/
theorem own_set {w : World} {base g n cap : Nat} {xs : List Nat} (h : w.ownsRow base 5 1 (.slice (some ⟨g, 0, none⟩) n cap) n (bcells xs)) (k v : Nat) (hk : k < n) {z : Int} (hz : z = (v : Int)) :
    (w.setCell ⟨g, k, none⟩ (.int .u8 z)).ownsRow base 5 1 (.slice (some ⟨g, 0, none⟩) n cap) n (bcells (xs.set k v)) := by
  subst hz
  have hl : xs.length = n := by have := h.1; rw [bcells_len] at this; omega
  refine ⟨by rw [bcells_len, List.length_set]; omega, .inr ?_⟩
  rcases h.2 with ⟨e, _⟩ | ⟨g', c, cur, e, hb, hc, h1, h2, hs, ht⟩
  · cases e
  · injection e with e1 _ e3
    have e2 : (⟨g, 0, none⟩ : Addr) = ⟨g', 0, none⟩ := Option.some.inj e1
    injection e2 with e4
    subst e4 e3
    refine ⟨g, cap, cur.setIfInBounds k (.int .u8 (v : Int)), rfl, hb, ?_, h1, h2, by rw [Array.size_setIfInBounds]; exact hs, ?_⟩
    · rw [setCell_eq_setRow w g k cur 5 (0, 0) (.int .u8 (v : Int)) hc]
      exact setRow_heap w g _ _ 5 _ hc
    · rw [Array.toList_setIfInBounds, List.take_set, ht]
      unfold bcells
      rw [List.map_set]
theorem own_frozen {w : World} {base g n cap : Nat} {xs : List Value} (h : w.ownsRow base 5 1 (.slice (some ⟨g, 0, none⟩) n cap) n xs) (i : Nat) : w.frozen? ⟨g, i, none⟩ = false := by
  rcases h.2 with ⟨e, _⟩ | ⟨g', c, cur, e, hb, hc, _⟩
  · cases e
  · injection e with e1 _ _
    have e2 : (⟨g, 0, none⟩ : Addr) = ⟨g', 0, none⟩ := Option.some.inj e1
    injection e2 with e4
    subst e4
    simp [World.frozen?, hc]
theorem Rd.drewN {w : World} {B : Nat} {A : Option Addr} {bs : List Nat} (h : Rd w B A bs) (m : Nat) : Rd (w.drewN m) B A bs := h.keep fun _ _ => rfl
theorem Below.drewN' {n : Nat} {w v : World} (h : Below n w v) (m : Nat) : Below n w (v.drewN m) := ⟨h.os, h.tape, h.output, h.size, h.block⟩
theorem loop_eq (s : ByteArray) : ∀ (n i : Nat) (r : List UInt8), s.size - i = n → ByteArray.toList.loop s i r = r.reverse ++ s.data.toList.drop i := by
  intro n
  induction n with
  | zero =>
    intro i r h
    unfold ByteArray.toList.loop
    rw [if_neg (by omega)]
    have : s.data.toList.drop i = [] := List.drop_eq_nil_of_le (by rw [Array.length_toList]; show s.size ≤ i; omega)
    rw [this, List.append_nil]
  | succ n ih =>
    intro i r h
    unfold ByteArray.toList.loop
    have hi : i < s.size := by omega
    rw [if_pos hi, ih (i + 1) _ (by omega)]
    have hi' : i < s.data.toList.length := by rw [Array.length_toList]; exact hi
    rw [List.drop_eq_getElem_cons hi', List.reverse_cons, List.append_assoc]
    congr 2
    simp [ByteArray.get!, hi]
theorem str_tl {a b : ByteArray} (h : ¬ a = b) : ¬ a.toList = b.toList := by
  have e : ∀ s : ByteArray, s.toList = s.data.toList := fun s => by unfold ByteArray.toList; rw [loop_eq s s.size 0 [] rfl]; rfl
  rw [e, e]
  intro h'
  apply h
  cases a with
  | mk a =>
    cases b with
    | mk b => exact congrArg ByteArray.mk (Array.toList_inj.1 h')

theorem strB_inj {bs : List Nat} (h : ∀ j, gt bs j < 256) : ((txt bs).data.toList.map UInt8.toNat) = bs := by
  unfold txt strOfNums
  dsimp only
  rw [List.map_map, List.map_map]
  conv => rhs; rw [← List.map_id bs]
  apply List.map_congr_left
  intro x hx
  have hx' : x < 256 := by
    obtain ⟨i, hi, e⟩ := List.getElem_of_mem hx
    have := h i
    unfold gt at this
    rw [List.getD_eq_getElem?_getD, List.getElem?_eq_getElem hi] at this
    rw [← e]; exact this
  show (UInt8.ofNat ((x : Nat) : Int).toNat).toNat = x
  rw [Int.toNat_natCast, UInt8.toNat_ofNat']
  omega
theorem txt_inj {a b : List Nat} (ha : ∀ j, gt a j < 256) (hb : ∀ j, gt b j < 256) : txt a = txt b ↔ a = b :=
  ⟨fun h => by rw [← strB_inj ha, ← strB_inj hb, h], fun h => by rw [h]⟩
theorem txt_beq {a b : List Nat} (ha : ∀ j, gt a j < 256) (hb : ∀ j, gt b j < 256) : ((txt a).toList == (txt b).toList) = decide (a = b) := by
  by_cases e : a = b
  · rw [decide_eq_true e, beq_iff_eq, e]
  · rw [decide_eq_false e, beq_eq_false_iff_ne]; exact str_tl fun e' => e ((txt_inj ha hb).1 e')
end Go.Proofs.YtkplkfokpniflaaDoor.Wr

namespace Go.Proofs.YtkplkfokpniflaaDoor.Wr
set_option linter.all false

theorem gt_drop (l : List Nat) (k j : Nat) : gt (l.drop k) j = gt l (k + j) := by
  unfold gt; rw [List.getD_eq_getElem?_getD, List.getD_eq_getElem?_getD, List.getElem?_drop]
theorem take_lt {l : List Nat} (h : ∀ j, gt l j < 256) (k : Nat) : ∀ j, gt (l.take k) j < 256 := by
  intro j
  by_cases hj : j < k
  · rw [gt_take _ _ _ hj]; exact h j
  · rw [gt_ge _ _ (by rw [List.length_take]; omega)]; decide
theorem drop_lt {l : List Nat} (h : ∀ j, gt l j < 256) (k : Nat) : ∀ j, gt (l.drop k) j < 256 := by
  intro j; rw [gt_drop]; exact h _

/-- a number's bytes, the highest first -/
def be : Nat → Nat → List Nat
  | 0, _ => []
  | k + 1, n => n / 256 ^ k % 256 :: be k n
/-- the number of bytes -/
def val : List Nat → Nat
  | [] => 0
  | x :: l => x * 256 ^ l.length + val l
theorem be_len : ∀ k n, (be k n).length = k
  | 0, _ => rfl
  | k + 1, n => by simp [be, be_len k n]
theorem gt_be : ∀ k n i, i < k → gt (be k n) i = n / 256 ^ (k - 1 - i) % 256
  | 0, _, _, h => by omega
  | k + 1, n, 0, _ => rfl
  | k + 1, n, i + 1, h => by
    rw [be, gt_cons_succ, gt_be k n i (by omega)]
    congr 3; omega
theorem be_lt (k n : Nat) : ∀ j, gt (be k n) j < 256 := by
  intro j
  by_cases h : j < k
  · rw [gt_be k n j h]; exact Nat.mod_lt _ (by omega)
  · rw [gt_ge _ _ (by rw [be_len]; omega)]; decide
theorem val_lt : ∀ l : List Nat, (∀ x ∈ l, x < 256) → val l < 256 ^ l.length
  | [], _ => by decide
  | x :: l, h => by
    have h1 := val_lt l fun y hy => h y (List.mem_cons_of_mem _ hy)
    have h2 := h x (List.mem_cons_self ..)
    rw [val, List.length_cons, Nat.pow_succ]
    have : x * 256 ^ l.length + 256 ^ l.length ≤ 256 ^ l.length * 256 := by
      rw [← Nat.succ_mul, Nat.mul_comm]; exact Nat.mul_le_mul_left _ (by omega)
    omega
theorem val_be : ∀ k n, val (be k n) = n % 256 ^ k
  | 0, n => by simp [be, val, Nat.mod_one]
  | k + 1, n => by
    rw [be, val, be_len, val_be k n, Nat.pow_succ, Nat.mod_mul]
    rw [Nat.mul_comm]; omega
theorem be_mod : ∀ k m n, n % 256 ^ k = m % 256 ^ k → be k n = be k m
  | 0, _, _, _ => rfl
  | k + 1, m, n, h => by
    rw [Nat.pow_succ] at h
    have h1 : n % 256 ^ k = m % 256 ^ k := by
      rw [← Nat.mod_mul_right_mod n (256 ^ k) 256, h, Nat.mod_mul_right_mod]
    have h2 : n / 256 ^ k % 256 = m / 256 ^ k % 256 := by
      have e := h
      rw [Nat.mod_mul, Nat.mod_mul, h1] at e
      have hp : 0 < 256 ^ k := Nat.pow_pos (by omega)
      exact Nat.eq_of_mul_eq_mul_left hp (by omega)
    rw [be, be, h2, be_mod k m n h1]
theorem be_val : ∀ l : List Nat, (∀ x ∈ l, x < 256) → be l.length (val l) = l
  | [], _ => rfl
  | x :: l, h => by
    have h1 := val_lt l fun y hy => h y (List.mem_cons_of_mem _ hy)
    have h2 := h x (List.mem_cons_self ..)
    have hp : 0 < 256 ^ l.length := Nat.pow_pos (by omega)
    rw [List.length_cons, be, val]
    have e1 : (x * 256 ^ l.length + val l) / 256 ^ l.length = x := by
      rw [Nat.mul_comm, Nat.mul_add_div hp, Nat.div_eq_of_lt h1, Nat.add_zero]
    rw [e1, Nat.mod_eq_of_lt h2]
    congr 1
    rw [be_mod l.length (val l) _ (by rw [Nat.mul_comm, Nat.mul_add_mod])]
    exact be_val l fun y hy => h y (List.mem_cons_of_mem _ hy)
theorem val_app : ∀ a b : List Nat, val (a ++ b) = val a * 256 ^ b.length + val b
  | [], b => by simp [val]
  | x :: a, b => by
    rw [List.cons_append, val, val, val_app a b, List.length_append, Nat.pow_add, Nat.add_mul, Nat.mul_assoc, Nat.add_assoc]
theorem val_one (x : Nat) : val [x] = x := by simp [val]
theorem val_snoc (a : List Nat) (x : Nat) : val (a ++ [x]) = val a * 256 + x := by rw [val_app, val_one]; simp
theorem all_lt {l : List Nat} (h : ∀ j, gt l j < 256) : ∀ x ∈ l, x < 256 := by
  intro x hx
  obtain ⟨i, hi, e⟩ := List.getElem_of_mem hx
  have := h i
  unfold gt at this
  rw [List.getD_eq_getElem?_getD, List.getElem?_eq_getElem hi] at this
  rw [← e]; exact this

/-- the number that stands at a place -/
def num (b : List Nat) (p k : Nat) : Nat := val ((b.drop p).take k)
theorem num_succ (b : List Nat) (p k : Nat) (h : p + k < b.length) : num b p (k + 1) = num b p k * 256 + gt b (p + k) := by
  unfold num
  rw [List.take_succ, val_app]
  have : (b.drop p)[k]? = some (gt b (p + k)) := by
    rw [List.getElem?_drop]; unfold gt; rw [List.getD_eq_getElem?_getD, List.getElem?_eq_getElem h]; rfl
  rw [this]; simp [val]
theorem num_zero (b : List Nat) (p : Nat) : num b p 0 = 0 := by simp [num, val]
theorem num_lt (b : List Nat) (hb : ∀ j, gt b j < 256) (p k : Nat) (h : p + k ≤ b.length) : num b p k < 256 ^ k := by
  have h1 : ((b.drop p).take k).length = k := by rw [List.length_take, List.length_drop]; omega
  have := val_lt ((b.drop p).take k) (all_lt (take_lt (drop_lt hb p) k))
  rw [h1] at this; exact this
theorem num_be (b : List Nat) (hb : ∀ j, gt b j < 256) (p k : Nat) (h : p + k ≤ b.length) : be k (num b p k) = (b.drop p).take k := by
  have h1 : ((b.drop p).take k).length = k := by rw [List.length_take, List.length_drop]; omega
  have := be_val ((b.drop p).take k) (all_lt (take_lt (drop_lt hb p) k))
  rw [h1] at this; exact this

/-- classes of lengths -/
def szB (n : Nat) : Nat := if n < 64 then 1 else if n < 16384 then 2 else 4
def mark (k : Nat) : Nat := if k = 1 then 0 else if k = 2 then 16384 else 2147483648
def least (k : Nat) : Nat := if k = 1 then 0 else if k = 2 then 64 else 16384
def cls (x : Nat) : Nat := if x < 64 then 1 else if x < 128 then 2 else 4
def lenB (n : Nat) : List Nat := be (szB n) (n + mark (szB n))
theorem lenB_len (n : Nat) : (lenB n).length = szB n := be_len _ _
theorem lenB_lt (n : Nat) : ∀ j, gt (lenB n) j < 256 := be_lt _ _
theorem szB_cases (n : Nat) : (n < 64 ∧ szB n = 1) ∨ (64 ≤ n ∧ n < 16384 ∧ szB n = 2) ∨ (16384 ≤ n ∧ szB n = 4) := by
  unfold szB
  by_cases h1 : n < 64
  · exact .inl ⟨h1, if_pos h1⟩
  · by_cases h2 : n < 16384
    · exact .inr (.inl ⟨by omega, h2, by rw [if_neg h1, if_pos h2]⟩)
    · exact .inr (.inr ⟨by omega, by rw [if_neg h1, if_neg h2]⟩)
theorem cls_cases (x : Nat) : (x < 64 ∧ cls x = 1) ∨ (64 ≤ x ∧ x < 128 ∧ cls x = 2) ∨ (128 ≤ x ∧ cls x = 4) := by
  unfold cls
  by_cases h1 : x < 64
  · exact .inl ⟨h1, if_pos h1⟩
  · by_cases h2 : x < 128
    · exact .inr (.inl ⟨by omega, h2, by rw [if_neg h1, if_pos h2]⟩)
    · exact .inr (.inr ⟨by omega, by rw [if_neg h1, if_neg h2]⟩)
theorem szB_pos (n : Nat) : 0 < szB n ∧ szB n ≤ 4 := by rcases szB_cases n with h | h | h <;> omega
/-- the number of a length's bytes -/
theorem lenB_val (n : Nat) (h : n < 1073741824) : val (lenB n) = n + mark (szB n) := by
  unfold lenB
  rw [val_be]
  apply Nat.mod_eq_of_lt
  rcases szB_cases n with ⟨h1, e⟩ | ⟨h1, h2, e⟩ | ⟨h1, e⟩ <;> rw [e] <;> simp only [mark] <;> simp <;> omega
theorem lenB_head (n : Nat) (h : n < 1073741824) : gt (lenB n) 0 < 192 ∧ cls (gt (lenB n) 0) = szB n := by
  unfold lenB
  rw [gt_be _ _ _ (szB_pos n).1]
  rcases szB_cases n with ⟨h1, e⟩ | ⟨h1, h2, e⟩ | ⟨h1, e⟩ <;> rw [e] <;> simp only [mark] <;> simp
  · have : n % 256 = n := by omega
    rw [this]; exact ⟨by omega, if_pos h1⟩
  · have h3 : 64 ≤ (n + 16384) / 256 % 256 ∧ (n + 16384) / 256 % 256 < 128 := by omega
    exact ⟨by omega, by unfold cls; rw [if_neg (by omega), if_pos (by omega)]⟩
  · have h3 : 128 ≤ (n + 2147483648) / 16777216 % 256 ∧ (n + 2147483648) / 16777216 % 256 < 192 := by omega
    exact ⟨by omega, by unfold cls; rw [if_neg (by omega), if_neg (by omega)]⟩

/-- the length that stands at a place: it, the place behind, the error -/
def lenAt (b : List Nat) (p : Nat) : Nat × Nat × Nat :=
  if b.length ≤ p then (0, 0, 111) else if 192 ≤ gt b p then (0, 0, 112) else if b.length < p + cls (gt b p) then (0, 0, 111)
  else if num b p (cls (gt b p)) < least (cls (gt b p)) + mark (cls (gt b p)) then (0, 0, 112) else (num b p (cls (gt b p)) - mark (cls (gt b p)), p + cls (gt b p), 0)
def txAt (b : List Nat) (p : Nat) : Nat × Nat × Nat :=
  if (lenAt b p).2.2 ≠ 0 then (0, 0, (lenAt b p).2.2) else if 1048576 < (lenAt b p).1 then (0, 0, 2) else if b.length < (lenAt b p).2.1 + (lenAt b p).1 then (0, 0, 111)
  else ((lenAt b p).2.1, (lenAt b p).2.1 + (lenAt b p).1, 0)
def txI (b : List Nat) (x : Int) : Nat × Nat × Nat := if x < 0 ∨ (b.length : Int) < x then (0, 0, 1) else txAt b x.toNat
def cut (b : List Nat) (fr to : Nat) : List Nat := (b.drop fr).take (to - fr)
def txB (s : List Nat) : List Nat := lenB s.length ++ s
def cat (l : List (List Nat)) : List Nat := (l.map txB).flatten
theorem txB_len (s : List Nat) : (txB s).length = szB s.length + s.length := by unfold txB; rw [List.length_append, lenB_len]
theorem txB_lt {s : List Nat} (h : ∀ j, gt s j < 256) : ∀ j, gt (txB s) j < 256 := gt_append_lt (lenB_lt _) h
theorem cat_lt {l : List (List Nat)} (h : ∀ s ∈ l, ∀ j, gt s j < 256) : ∀ j, gt (cat l) j < 256 := by
  refine gt_lt_of_mem fun x hx => ?_
  unfold cat at hx
  obtain ⟨t, ht, hxt⟩ := List.mem_flatten.1 hx
  obtain ⟨s, hs, rfl⟩ := List.mem_map.1 ht
  exact all_lt (txB_lt (h s hs)) x hxt
theorem cat_append (a b : List (List Nat)) : cat (a ++ b) = cat a ++ cat b := by unfold cat; rw [List.map_append, List.flatten_append]
theorem cat_one (s : List Nat) : cat [s] = txB s := by simp [cat]
theorem cat_cons (s : List Nat) (l : List (List Nat)) : cat (s :: l) = txB s ++ cat l := by simp [cat]
theorem cat_nil : cat [] = [] := rfl
theorem cut_len (b : List Nat) (fr to : Nat) (h1 : fr ≤ to) (h2 : to ≤ b.length) : (cut b fr to).length = to - fr := by
  unfold cut; rw [List.length_take, List.length_drop]; omega
theorem cut_lt {b : List Nat} (h : ∀ j, gt b j < 256) (fr to : Nat) : ∀ j, gt (cut b fr to) j < 256 := take_lt (drop_lt h fr) _

theorem lenAt_err (b : List Nat) (p : Nat) : (lenAt b p).2.2 = 0 ∨ (lenAt b p).2.2 = 111 ∨ (lenAt b p).2.2 = 112 := by
  unfold lenAt
  split
  · exact .inr (.inl rfl)
  · split
    · exact .inr (.inr rfl)
    · split
      · exact .inr (.inl rfl)
      · split
        · exact .inr (.inr rfl)
        · exact .inl rfl
/-- a length that is read is written as it stood -/
theorem lenAt_ok {b : List Nat} (hb : ∀ j, gt b j < 256) {p : Nat} (h : (lenAt b p).2.2 = 0) :
    p < (lenAt b p).2.1 ∧ (lenAt b p).2.1 ≤ b.length ∧ (lenAt b p).1 < 1073741824 ∧ lenB (lenAt b p).1 = cut b p (lenAt b p).2.1 ∧ (lenAt b p).2.1 = p + szB (lenAt b p).1 := by
  unfold lenAt at h ⊢
  by_cases h1 : b.length ≤ p
  · rw [if_pos h1] at h; cases h
  rw [if_neg h1] at h ⊢
  by_cases h2 : 192 ≤ gt b p
  · rw [if_pos h2] at h; cases h
  rw [if_neg h2] at h ⊢
  by_cases h3 : b.length < p + cls (gt b p)
  · rw [if_pos h3] at h; cases h
  rw [if_neg h3] at h ⊢
  by_cases h4 : num b p (cls (gt b p)) < least (cls (gt b p)) + mark (cls (gt b p))
  · rw [if_pos h4] at h; cases h
  rw [if_neg h4] at h ⊢
  dsimp only
  have hn := num_lt b hb p (cls (gt b p)) (by omega)
  have hbe := num_be b hb p (cls (gt b p)) (by omega)
  have hk : 0 < cls (gt b p) := by rcases cls_cases (gt b p) with h | h | h <;> omega
  have hup : num b p (cls (gt b p)) < (gt b p + 1) * 256 ^ (cls (gt b p) - 1) := by
    have h0 : (b.drop p).take (cls (gt b p)) = gt b p :: (b.drop (p + 1)).take (cls (gt b p) - 1) := by
      obtain ⟨k, hk'⟩ : ∃ k, cls (gt b p) = k + 1 := ⟨cls (gt b p) - 1, by omega⟩
      rw [hk', List.drop_eq_getElem_cons (show p < b.length by omega), List.take_succ_cons]
      congr 1
      unfold gt; rw [List.getD_eq_getElem?_getD, List.getElem?_eq_getElem (show p < b.length by omega)]; rfl
    have hl : ((b.drop (p + 1)).take (cls (gt b p) - 1)).length = cls (gt b p) - 1 := by rw [List.length_take, List.length_drop]; omega
    have h1 := val_lt ((b.drop (p + 1)).take (cls (gt b p) - 1)) (all_lt (take_lt (drop_lt hb _) _))
    rw [hl] at h1
    unfold num
    rw [h0, val, hl, Nat.add_mul]
    omega
  have hlo : gt b p * 256 ^ (cls (gt b p) - 1) ≤ num b p (cls (gt b p)) := by
    have h0 : (b.drop p).take (cls (gt b p)) = gt b p :: (b.drop (p + 1)).take (cls (gt b p) - 1) := by
      obtain ⟨k, hk'⟩ : ∃ k, cls (gt b p) = k + 1 := ⟨cls (gt b p) - 1, by omega⟩
      rw [hk', List.drop_eq_getElem_cons (show p < b.length by omega), List.take_succ_cons]
      congr 1
      unfold gt; rw [List.getD_eq_getElem?_getD, List.getElem?_eq_getElem (show p < b.length by omega)]; rfl
    have hl : ((b.drop (p + 1)).take (cls (gt b p) - 1)).length = cls (gt b p) - 1 := by rw [List.length_take, List.length_drop]; omega
    unfold num
    rw [h0, val, hl]
    omega
  generalize num b p (cls (gt b p)) = N at *
  have key : szB (N - mark (cls (gt b p))) = cls (gt b p) ∧ N - mark (cls (gt b p)) + mark (cls (gt b p)) = N ∧ N - mark (cls (gt b p)) < 1073741824 := by
    rcases cls_cases (gt b p) with ⟨h5, e⟩ | ⟨h5, h6, e⟩ | ⟨h5, e⟩ <;> rw [e] at h4 hup hlo ⊢ <;> simp only [mark, least] at h4 hup hlo ⊢ <;> simp at h4 hup hlo ⊢
    · refine ⟨by unfold szB; rw [if_pos (by omega)], by omega⟩
    · refine ⟨by unfold szB; rw [if_neg (by omega), if_pos (by omega)], by omega, by omega⟩
    · refine ⟨by unfold szB; rw [if_neg (by omega), if_neg (by omega)], by omega, by omega⟩
  obtain ⟨k1, k2, k3⟩ := key
  refine ⟨by omega, by omega, k3, ?_, by rw [k1]⟩
  unfold lenB
  rw [k1, k2, hbe]
  unfold cut
  rw [Nat.add_sub_cancel_left]
theorem take_app (b : List Nat) (p m k : Nat) : cut b p (p + m) ++ cut b (p + m) (p + m + k) = cut b p (p + m + k) := by
  unfold cut
  rw [Nat.add_sub_cancel_left, Nat.add_sub_cancel_left, show p + m + k - p = m + k by omega, List.take_add, List.drop_drop]
/-- a text that is read is written as it stood -/
theorem txAt_ok {b : List Nat} (hb : ∀ j, gt b j < 256) {p : Nat} (h : (txAt b p).2.2 = 0) :
    p < (txAt b p).1 ∧ (txAt b p).1 ≤ (txAt b p).2.1 ∧ (txAt b p).2.1 ≤ b.length ∧ (txAt b p).2.1 - (txAt b p).1 ≤ 1048576 ∧
    txB (cut b (txAt b p).1 (txAt b p).2.1) = cut b p (txAt b p).2.1 := by
  unfold txAt at h ⊢
  by_cases h1 : (lenAt b p).2.2 ≠ 0
  · rw [if_pos h1] at h; exact absurd h h1
  rw [if_neg h1] at h ⊢
  by_cases h2 : 1048576 < (lenAt b p).1
  · rw [if_pos h2] at h; cases h
  rw [if_neg h2] at h ⊢
  by_cases h3 : b.length < (lenAt b p).2.1 + (lenAt b p).1
  · rw [if_pos h3] at h; cases h
  rw [if_neg h3] at h ⊢
  obtain ⟨k1, k2, k3, k4, k5⟩ := lenAt_ok hb (p := p) (by omega)
  refine ⟨k1, by show _ ≤ _ + _; omega, by show _ + _ ≤ _; omega, by show _ + _ - _ ≤ _; omega, ?_⟩
  show txB (cut b (lenAt b p).2.1 ((lenAt b p).2.1 + (lenAt b p).1)) = cut b p ((lenAt b p).2.1 + (lenAt b p).1)
  unfold txB
  rw [cut_len _ _ _ (by omega) (by omega), Nat.add_sub_cancel_left, k4]
  rw [k5]
  exact take_app b p _ _

theorem drop_pre (pre x : List Nat) : (pre ++ x).drop pre.length = x := by simp
theorem gt_pre (pre x : List Nat) (j : Nat) : gt (pre ++ x) (pre.length + j) = gt x j := by rw [← gt_drop, drop_pre]
theorem lenAt_put (pre s post : List Nat) (hs : s.length ≤ 1048576) : lenAt (pre ++ (txB s ++ post)) pre.length = (s.length, pre.length + szB s.length, 0) := by
  obtain ⟨h1, h2⟩ := lenB_head s.length (by omega)
  have hp := szB_pos s.length
  have hg : gt (pre ++ (txB s ++ post)) pre.length = gt (lenB s.length) 0 := by
    have := gt_pre pre (txB s ++ post) 0
    rw [Nat.add_zero] at this
    rw [this]; unfold txB
    rw [List.append_assoc, gt_append, if_pos (by rw [lenB_len]; omega)]
  have hl : (pre ++ (txB s ++ post)).length = pre.length + (szB s.length + s.length + post.length) := by rw [List.length_append, List.length_append, txB_len]
  have hn : num (pre ++ (txB s ++ post)) pre.length (szB s.length) = s.length + mark (szB s.length) := by
    unfold num
    rw [drop_pre, ← lenB_val s.length (by omega)]
    unfold txB
    rw [List.append_assoc, List.take_append_of_le_length (by rw [lenB_len]; omega), List.take_of_length_le (by rw [lenB_len]; omega)]
  unfold lenAt
  rw [if_neg (by rw [hl]; omega), hg, if_neg (by omega), h2, if_neg (by rw [hl]; omega), hn]
  rw [if_neg, Nat.add_sub_cancel]
  rcases szB_cases s.length with ⟨h5, e⟩ | ⟨h5, h6, e⟩ | ⟨h5, e⟩ <;> rw [e] <;> simp only [mark, least] <;> simp <;> omega
theorem txAt_put (pre s post : List Nat) (hs : s.length ≤ 1048576) : txAt (pre ++ (txB s ++ post)) pre.length = (pre.length + szB s.length, pre.length + (txB s).length, 0) := by
  have h := lenAt_put pre s post hs
  have hl : (pre ++ (txB s ++ post)).length = pre.length + (szB s.length + s.length + post.length) := by rw [List.length_append, List.length_append, txB_len]
  unfold txAt
  rw [h]
  dsimp only
  rw [if_neg (by simp), if_neg (by omega), if_neg (by rw [hl]; omega), txB_len, Nat.add_assoc]
theorem cut_put (pre s post : List Nat) : cut (pre ++ (txB s ++ post)) (pre.length + szB s.length) (pre.length + (txB s).length) = s := by
  unfold cut
  rw [← List.drop_drop, drop_pre, txB_len]
  unfold txB
  rw [List.append_assoc, List.drop_append_of_le_length (by rw [lenB_len]; omega), List.drop_of_length_le (by rw [lenB_len]; omega), List.nil_append, show pre.length + (szB s.length + s.length) - (pre.length + szB s.length) = s.length by omega]
  simp

/-- the texts that stand one behind the other -/
def txs (b : List Nat) : Nat → Nat → List (List Nat) → List (List Nat) × Nat
  | 0, _, acc => (acc, 0)
  | f + 1, p, acc => if b.length ≤ p then (acc, 0) else if (txAt b p).2.2 ≠ 0 then ([], (txAt b p).2.2) else txs b f (txAt b p).2.1 (acc ++ [cut b (txAt b p).1 (txAt b p).2.1])
def textsOf (b : List Nat) : List (List Nat) × Nat := txs b b.length 0 []
theorem cut_zero (b : List Nat) (to : Nat) : cut b 0 to = b.take to := by simp [cut]
theorem cut_join (b : List Nat) (p q : Nat) (h : p ≤ q) : b.take p ++ cut b p q = b.take q := by
  have := take_app b 0 p (q - p)
  rw [Nat.zero_add, cut_zero, show p + (q - p) = q by omega, cut_zero] at this
  exact this
theorem txs_ok {b : List Nat} (hb : ∀ j, gt b j < 256) : ∀ f p acc, b.length - p ≤ f → p ≤ b.length → cat acc = b.take p → (txs b f p acc).2 = 0 → cat (txs b f p acc).1 = b := by
  intro f
  induction f with
  | zero => intro p acc h1 h2 h3 h4; show cat acc = b; rw [h3, List.take_of_length_le (by omega)]
  | succ f ih =>
    intro p acc h1 h2 h3 h4
    unfold txs at h4 ⊢
    by_cases h5 : b.length ≤ p
    · rw [if_pos h5]; show cat acc = b; rw [h3, List.take_of_length_le (by omega)]
    rw [if_neg h5] at h4 ⊢
    by_cases h6 : (txAt b p).2.2 ≠ 0
    · rw [if_pos h6] at h4; exact absurd h4 h6
    rw [if_neg h6] at h4 ⊢
    obtain ⟨k1, k2, k3, k4, k5⟩ := txAt_ok hb (p := p) (by omega)
    refine ih _ _ (by omega) k3 ?_ h4
    rw [cat_append, cat_one, h3, k5]
    exact cut_join b p _ (by omega)
theorem textsOf_ok {b : List Nat} (hb : ∀ j, gt b j < 256) (h : (textsOf b).2 = 0) : cat (textsOf b).1 = b :=
  txs_ok hb _ _ _ (by omega) (by omega) rfl h
theorem txs_put : ∀ (l : List (List Nat)) (pre : List Nat) (f : Nat) (acc : List (List Nat)), (∀ s ∈ l, s.length ≤ 1048576) → (cat l).length ≤ f → txs (pre ++ cat l) f pre.length acc = (acc ++ l, 0)
  | [], pre, f, acc, _, _ => by
    cases f with
    | zero => simp [txs]
    | succ f => unfold txs; rw [if_pos (by rw [cat_nil]; simp)]; simp
  | s :: l, pre, f, acc, h, hf => by
    rw [cat_cons, List.length_append, txB_len] at hf
    have hp := szB_pos s.length
    cases f with
    | zero => omega
    | succ f =>
      have h1 := txAt_put pre s (cat l) (h s (List.mem_cons_self ..))
      have h2 := cut_put pre s (cat l)
      unfold txs
      rw [cat_cons, if_neg (by rw [List.length_append, List.length_append, txB_len]; omega), h1]
      dsimp only
      rw [if_neg (by simp), h2, ← List.append_assoc, ← List.length_append]
      rw [txs_put l (pre ++ txB s) f (acc ++ [s]) (fun t ht => h t (List.mem_cons_of_mem _ ht)) (by omega)]
      simp
theorem textsOf_put (l : List (List Nat)) (h : ∀ s ∈ l, s.length ≤ 1048576) : textsOf (cat l) = (l, 0) := by
  have := txs_put l [] (cat l).length [] h (Nat.le_refl _)
  simpa [textsOf] using this
theorem mem_len {l : List (List Nat)} {s : List Nat} (h : s ∈ l) : s.length ≤ (cat l).length := by
  induction l with
  | nil => cases h
  | cons t l ih =>
    rw [cat_cons, List.length_append, txB_len]
    rcases List.mem_cons.1 h with rfl | h
    · omega
    · have := ih h; omega

/-- what is told of a text, of a list -/
def getT (b : List Nat) (x : Int) : List Nat × Nat × Nat := if (txI b x).2.2 ≠ 0 then ([], 0, (txI b x).2.2) else (cut b (txI b x).1 (txI b x).2.1, (txI b x).2.1, 0)
def getL (b : List Nat) (x : Int) : List (List Nat) × Nat × Nat :=
  if (getT b x).2.2 ≠ 0 then ([], 0, (getT b x).2.2) else if (textsOf (getT b x).1).2 ≠ 0 then ([], 0, (textsOf (getT b x).1).2) else ((textsOf (getT b x).1).1, (getT b x).2.1, 0)
def putT (s : List Nat) : List Nat × Nat := if 1048576 < s.length then ([], 2) else (txB s, 0)
def putL (l : List (List Nat)) : List Nat × Nat := if 1048576 < (cat l).length then ([], 2) else (txB (cat l), 0)
theorem txI_zero (b : List Nat) : txI b 0 = txAt b 0 := by unfold txI; rw [if_neg (by omega)]; rfl
theorem txI_nat (b : List Nat) (p : Nat) (h : p ≤ b.length) : txI b p = txAt b p := by unfold txI; rw [if_neg (by omega)]; simp
theorem getT_kept {b : List Nat} (hb : ∀ j, gt b j < 256) (h : (getT b 0).2.2 = 0) : (getT b 0).2.1 ≤ b.length ∧ putT (getT b 0).1 = (b.take (getT b 0).2.1, 0) := by
  unfold getT at h ⊢
  rw [txI_zero] at h ⊢
  by_cases h1 : (txAt b 0).2.2 ≠ 0
  · rw [if_pos h1] at h; exact absurd h h1
  rw [if_neg h1] at h ⊢
  obtain ⟨k1, k2, k3, k4, k5⟩ := txAt_ok hb (p := 0) (by omega)
  refine ⟨k3, ?_⟩
  unfold putT
  dsimp only
  rw [if_neg (by rw [cut_len _ _ _ k2 k3]; omega), k5, cut_zero]
theorem getL_kept {b : List Nat} (hb : ∀ j, gt b j < 256) (h : (getL b 0).2.2 = 0) : (getL b 0).2.1 ≤ b.length ∧ putL (getL b 0).1 = (b.take (getL b 0).2.1, 0) := by
  unfold getL at h ⊢
  by_cases h1 : (getT b 0).2.2 ≠ 0
  · rw [if_pos h1] at h; exact absurd h h1
  rw [if_neg h1] at h ⊢
  by_cases h2 : (textsOf (getT b 0).1).2 ≠ 0
  · rw [if_pos h2] at h; exact absurd h h2
  rw [if_neg h2] at h ⊢
  obtain ⟨k1, k2⟩ := getT_kept hb (by omega)
  refine ⟨k1, ?_⟩
  have hlt : ∀ j, gt (getT b 0).1 j < 256 := by
    unfold getT
    split
    · exact fun j => by simp [gt]
    · exact cut_lt hb _ _
  have h3 := textsOf_ok hlt (by omega)
  dsimp only
  unfold putL
  rw [h3]
  exact k2
theorem getL_zero (b : List Nat) (x : Int) (h : (getL b x).2.2 ≠ 0) : (getL b x).1 = [] ∧ (getL b x).2.1 = 0 := by
  unfold getL at h ⊢
  split
  · exact ⟨rfl, rfl⟩
  · split
    · exact ⟨rfl, rfl⟩
    · rename_i h1 h2; rw [if_neg h1, if_neg h2] at h; exact absurd rfl h
theorem getT_put (pre s post : List Nat) (hs : s.length ≤ 1048576) : getT (pre ++ (txB s ++ post)) pre.length = (s, pre.length + (txB s).length, 0) := by
  have h1 := txAt_put pre s post hs
  have h2 := cut_put pre s post
  unfold getT
  rw [txI_nat _ _ (by simp), h1]
  dsimp only
  rw [if_neg (by simp), h2]
theorem getL_put (pre post : List Nat) (l : List (List Nat)) (hl : (cat l).length ≤ 1048576) : getL (pre ++ (txB (cat l) ++ post)) pre.length = (l, pre.length + (txB (cat l)).length, 0) := by
  have h1 := getT_put pre (cat l) post hl
  have h2 := textsOf_put l fun s hs => by have := mem_len hs; omega
  unfold getL
  rw [h1]
  dsimp only
  rw [if_neg (by simp), h2]
  simp
/-- unlike texts: no beginning of one another -/
theorem txB_apart {s t x y : List Nat} (hs : s.length ≤ 1048576) (ht : t.length ≤ 1048576) (h : txB s ++ x = txB t ++ y) : s = t := by
  have h1 := getT_put [] s x hs
  have h2 := getT_put [] t y ht
  rw [List.nil_append] at h1 h2
  rw [h, h2] at h1
  exact (congrArg Prod.fst h1).symm
theorem lsB_apart {l m : List (List Nat)} {x y : List Nat} (hl : (cat l).length ≤ 1048576) (hm : (cat m).length ≤ 1048576) (h : txB (cat l) ++ x = txB (cat m) ++ y) : l = m := by
  have h1 := getL_put [] x l hl
  have h2 := getL_put [] y m hm
  rw [List.nil_append] at h1 h2
  rw [h, h2] at h1
  exact (congrArg Prod.fst h1).symm
/-- cut anywhere it is none -/
theorem txAt_cut (s : List Nat) (k : Nat) (hs : s.length ≤ 1048576) (hk : k < (txB s).length) : txAt ((txB s).take k) 0 = (0, 0, 111) := by
  obtain ⟨h1, h2⟩ := lenB_head s.length (by omega)
  have hp := szB_pos s.length
  have hlen : ((txB s).take k).length = k := by rw [List.length_take]; omega
  rw [txB_len] at hk
  have hfull := lenAt_put [] s [] hs
  rw [List.nil_append, List.append_nil, List.length_nil, Nat.zero_add] at hfull
  by_cases h0 : k = 0
  · subst h0
    unfold txAt lenAt
    simp
  have hg : gt ((txB s).take k) 0 = gt (lenB s.length) 0 := by
    rw [gt_take _ _ _ (by omega)]; unfold txB; rw [gt_append, if_pos (by rw [lenB_len]; omega)]
  by_cases h3 : k < szB s.length
  · have : lenAt ((txB s).take k) 0 = (0, 0, 111) := by
      unfold lenAt
      rw [if_neg (by rw [hlen]; omega), hg, if_neg (by omega), h2, if_pos (by rw [hlen]; omega)]
    unfold txAt
    rw [this]
    simp
  · have hn : num ((txB s).take k) 0 (szB s.length) = s.length + mark (szB s.length) := by
      unfold num
      rw [List.drop_zero, List.take_take, Nat.min_eq_left (by omega), ← lenB_val s.length (by omega)]
      unfold txB
      rw [List.take_append_of_le_length (by rw [lenB_len]; omega), List.take_of_length_le (by rw [lenB_len]; omega)]
    have : lenAt ((txB s).take k) 0 = (s.length, szB s.length, 0) := by
      unfold lenAt
      rw [if_neg (by rw [hlen]; omega), hg, if_neg (by omega), h2, if_neg (by rw [hlen]; omega), hn, if_neg, Nat.add_sub_cancel, Nat.zero_add]
      rcases szB_cases s.length with ⟨h5, e⟩ | ⟨h5, h6, e⟩ | ⟨h5, e⟩ <;> rw [e] <;> simp only [mark, least] <;> simp <;> omega
    unfold txAt
    rw [this]
    dsimp only
    rw [if_neg (by simp), if_neg (by omega), if_pos (by rw [hlen]; omega)]
theorem getL_cut (s : List Nat) (k : Nat) (hs : s.length ≤ 1048576) (hk : k < (txB s).length) : getL ((txB s).take k) 0 = ([], 0, 111) := by
  have h := txAt_cut s k hs hk
  unfold getL getT
  rw [txI_zero, h]
  simp
end Go.Proofs.YtkplkfokpniflaaDoor.Wr

namespace Go.Proofs.YtkplkfokpniflaaDoor.Wr
set_option linter.all false
open Go.RowKit

/-- the classes of lengths, as they lie -/
def classCells : Array Value := #[.int .i64 1, .int .u8 64, .int .i64 0, .int .i64 64, .int .i64 2, .int .u8 128, .int .i64 16384, .int .i64 16384, .int .i64 4, .int .u8 192, .int .i64 2147483648, .int .i64 1073741824]
theorem add_add (a : Addr) (i j : Nat) : (a.add i).add j = a.add (i + j) := by
  unfold Addr.add
  by_cases hi : i = 0
  · subst hi; simp
  · by_cases hj : j = 0
    · subst hj; simp [hi]
    · simp [hi, hj, Nat.add_assoc]
theorem add_block (a : Addr) (i : Nat) : (a.add i).block = a.block := by unfold Addr.add; split <;> rfl
/-- a text: a slice with these bytes, in a block of which S is true -/
def Txt (S : Nat → Prop) (w : World) (A : Option Addr) (n c : Nat) (bs : List Nat) : Prop :=
  Rd w w.heap.size A bs ∧ bs.length = n ∧ n ≤ c ∧ c ≤ 9223372036854775807 ∧ (A = none → c = 0) ∧ ∀ ad, A = some ad → S ad.block
theorem Txt.nil (S : Nat → Prop) (w : World) : Txt S w none 0 0 [] := ⟨Rd.nil _ _ _, rfl, Nat.le_refl _, by omega, fun _ => rfl, fun _ e => by cases e⟩
theorem Txt.lt {S : Nat → Prop} {w : World} {A : Option Addr} {n c : Nat} {bs : List Nat} (h : Txt S w A n c bs) : ∀ j, gt bs j < 256 := h.1.1
theorem Txt.len {S : Nat → Prop} {w : World} {A : Option Addr} {n c : Nat} {bs : List Nat} (h : Txt S w A n c bs) : bs.length = n := h.2.1
theorem Txt.conv {S : Nat → Prop} {w : World} {A : Option Addr} {n c : Nat} {bs : List Nat} (h : Txt S w A n c bs) : (convert 22 9 (.slice A n c)).run Tryd.prog w = .ok (.string (txt bs)) w := conv_rd h.1 h.2.1
theorem Txt.mono {S S' : Nat → Prop} {w : World} {A : Option Addr} {n c : Nat} {bs : List Nat} (h : Txt S w A n c bs) (hS : ∀ b, S b → S' b) : Txt S' w A n c bs :=
  ⟨h.1, h.2.1, h.2.2.1, h.2.2.2.1, h.2.2.2.2.1, fun ad e => hS _ (h.2.2.2.2.2 ad e)⟩
theorem rd_keepS {S : Nat → Prop} {w w' : World} {A : Option Addr} {bs : List Nat} (h : Rd w w.heap.size A bs) (h6 : ∀ ad, A = some ad → S ad.block) (hs : w.heap.size ≤ w'.heap.size) (hc : ∀ b, S b → b < w.heap.size → w'.heap[b]? = w.heap[b]?) : Rd w' w'.heap.size A bs := by
  refine ⟨h.1, fun hn => ?_⟩
  obtain ⟨ad, ha, hlt, hr⟩ := h.2 hn
  refine ⟨ad, ha, by omega, fun j hj => ?_⟩
  have hbl : (ad.add j).block = ad.block := by unfold Addr.add; split <;> rfl
  rw [World.cell?_of_block (hc (ad.add j).block (by rw [hbl]; exact h6 ad ha) (by rw [hbl]; exact hlt))]
  exact hr j hj
theorem Txt.kept {S : Nat → Prop} {w w' : World} {A : Option Addr} {n c : Nat} {bs : List Nat} (h : Txt S w A n c bs) (hs : w.heap.size ≤ w'.heap.size) (hc : ∀ b, S b → b < w.heap.size → w'.heap[b]? = w.heap[b]?) : Txt S w' A n c bs :=
  ⟨rd_keepS h.1 h.2.2.2.2.2 hs hc, h.2⟩
theorem Txt.below {S : Nat → Prop} {w w' : World} {A : Option Addr} {n c : Nat} {bs : List Nat} (h : Txt S w A n c bs) (hb : Below w.heap.size w w') : Txt S w' A n c bs :=
  h.kept hb.size fun b _ hlt => hb.block b hlt
theorem Txt.drew {S : Nat → Prop} {w : World} {A : Option Addr} {n c : Nat} {bs : List Nat} (h : Txt S w A n c bs) : Txt S w.drew A n c bs := h
theorem Txt.drewN {S : Nat → Prop} {w : World} {A : Option Addr} {n c : Nat} {bs : List Nat} (h : Txt S w A n c bs) (k : Nat) : Txt S (w.drewN k) A n c bs := h.kept (Nat.le_refl _) fun _ _ _ => rfl
/-- of whatever block -/
def Any : Nat → Prop := fun _ => True
/-- new since lo -/
def New (lo : Nat) (w : World) : Nat → Prop := fun b => lo ≤ b ∧ b < w.heap.size
theorem Txt.any {S : Nat → Prop} {w : World} {A : Option Addr} {n c : Nat} {bs : List Nat} (h : Txt S w A n c bs) : Txt Any w A n c bs := h.mono fun _ _ => True.intro
theorem Txt.of_own {base n : Nat} {w : World} {v : Value} {bs : List Nat} (h : w.ownsRow base 5 1 v n (bcells bs)) (hx : ∀ j, gt bs j < 256) : ∃ A c, v = .slice A n c ∧ Txt (New base w) w A n c bs := by
  obtain ⟨A, c, rfl, h1, h2, h3, h4, h5, h6⟩ := own_slice h hx
  refine ⟨A, c, rfl, h4, h5, h2, h3, h1, fun ad e => ?_⟩
  subst e
  exact h6 ad.block rfl
theorem Txt.of_row {w : World} {h n base : Nat} {bs : List Nat} (hrow : w.rowIs h 5 n (byteRow bs)) (hn : bs.length = n) (hx : ∀ j, gt bs j < 256) (hb : base ≤ h) (hm : n ≤ 9223372036854775807) : Txt (New base w) w (some ⟨h, 0, none⟩) n n bs :=
  ⟨rd_of_rowIs hrow hn hx (Nat.le_refl _), hn, Nat.le_refl _, hm, fun e => (by cases e), fun ad e => (by injection e with e; subst e; exact ⟨hb, hrow.lt⟩)⟩
/-- a part of a text -/
theorem Txt.part {S : Nat → Prop} {w : World} {ad : Addr} {n c : Nat} {bs : List Nat} (h : Txt S w (some ad) n c bs) (p q : Nat) (hpq : p ≤ q) (hq : q ≤ n) : Txt S w (some (ad.add p)) (q - p) (c - p) (cut bs p q) := by
  obtain ⟨h1, h2, h3, h4, h5, h6⟩ := h
  have hl : (cut bs p q).length = q - p := cut_len _ _ _ hpq (by omega)
  refine ⟨⟨cut_lt h1.1 _ _, fun hn => ?_⟩, hl, by omega, by omega, fun e => (by cases e), fun ad' e => ?_⟩
  · obtain ⟨ad', e, hlt, hr⟩ := h1.2 (by omega)
    injection e with e
    subst e
    refine ⟨_, rfl, by rw [add_block]; exact hlt, fun j hj => ?_⟩
    rw [add_add, hr (p + j) (by omega)]
    unfold cut
    rw [gt_take _ _ _ (by omega), gt_drop]
  · injection e with e
    subst e
    rw [add_block]
    exact h6 ad rfl
theorem run_cut (ad : Addr) (n c p q : Nat) (hpq : p ≤ q) (hq : q ≤ n) (hp : p < c) (hnc : n ≤ c) (w : World) :
    (Instr.slice 22 (.slice (some ad) n c) (some (.int .i64 (p : Int))) (some (.int .i64 (q : Int))) none).run Tryd.prog w = .ok (.slice (some (ad.add p)) (q - p) (c - p)) w := by
  have h1 : Tryd.prog.underlying 22 = some (.slice (Tryd.prog.elem 22)) := by kernel_rfl
  have h3 : Tryd.prog.elem 22 = 5 := by kernel_rfl
  have h4 : (Tryd.prog.info? 5).map (·.size) = some 1 := by kernel_rfl
  cases hq' : Tryd.prog.info? 5 with
  | none => simp [hq'] at h4
  | some i =>
    have hs1 : i.size = 1 := by simpa [hq'] using h4
    rw [run_slice_lh (a := some ad) (len := n) (cap := c) (w := w) (t := 22) (ht := h1) .i64 .i64 (p : Int) (q : Int) (by omega) (by omega) (by omega), h3]
    have e1 : ((q : Int)).toNat - p = q - p := by omega
    have e3 : ¬ c = p := by omega
    simp [sizeOf, typeInfo, hq', hs1, sliced, e1, e3]
theorem run_head (A : Option Addr) (n c q : Nat) (hq : q ≤ n) (hnc : n ≤ c) (hA : A = none → c = 0) (w : World) :
    (Instr.slice 22 (.slice A n c) none (some (.int .i64 (q : Int))) none).run Tryd.prog w = .ok (.slice A q c) w := by
  have h1 : Tryd.prog.underlying 22 = some (.slice (Tryd.prog.elem 22)) := by kernel_rfl
  have h3 : Tryd.prog.elem 22 = 5 := by kernel_rfl
  have h4 : (Tryd.prog.info? 5).map (·.size) = some 1 := by kernel_rfl
  cases hq' : Tryd.prog.info? 5 with
  | none => simp [hq'] at h4
  | some i =>
    have hs1 : i.size = 1 := by simpa [hq'] using h4
    rw [run_slice_h (a := A) (len := n) (cap := c) (w := w) (t := 22) (ht := h1) .i64 (q : Int) (by omega) (by omega), h3]
    cases A with
    | none =>
      have := hA rfl
      subst this
      obtain rfl : n = 0 := by omega
      obtain rfl : q = 0 := by omega
      simp [sizeOf, typeInfo, hq', hs1, sliced]
    | some ad =>
      have e4 : ad.add 0 = ad := rfl
      simp [sizeOf, typeInfo, hq', hs1, sliced, e4]
theorem Txt.head {S : Nat → Prop} {w : World} {A : Option Addr} {n c : Nat} {bs : List Nat} (h : Txt S w A n c bs) (q : Nat) (hq : q ≤ n) : Txt S w A q c (bs.take q) := by
  obtain ⟨h1, h2, h3, h4, h5, h6⟩ := h
  refine ⟨⟨take_lt h1.1 q, fun hn => ?_⟩, by rw [List.length_take]; omega, by omega, h4, h5, h6⟩
  rw [List.length_take] at hn
  obtain ⟨ad, e, hlt, hr⟩ := h1.2 (by omega)
  refine ⟨ad, e, hlt, fun j hj => ?_⟩
  rw [List.length_take] at hj
  rw [hr j (by omega), gt_take _ _ _ (by omega)]
theorem Txt.cell {S : Nat → Prop} {w : World} {ad : Addr} {n c : Nat} {bs : List Nat} (h : Txt S w (some ad) n c bs) (j : Nat) (hj : j < n) : w.cell? (ad.add j) = some (.int .u8 (gt bs j : Nat)) := by
  obtain ⟨ad', e, hlt, hr⟩ := h.1.2 (by rw [h.2.1]; omega)
  injection e with e
  subst e
  exact hr j (by rw [h.2.1]; exact hj)
theorem Txt.some {S : Nat → Prop} {w : World} {A : Option Addr} {n c : Nat} {bs : List Nat} (h : Txt S w A n c bs) (hn : 0 < n) : ∃ ad, A = .some ad := by
  obtain ⟨ad, e, _⟩ := h.1.2 (by rw [h.2.1]; omega)
  exact ⟨ad, e⟩

/-- a list of texts: a slice of slices -/
def TxtL (S : Nat → Prop) (w : World) (A : Option Addr) (n c : Nat) (ls : List (List Nat)) : Prop :=
  ls.length = n ∧ n ≤ c ∧ c ≤ 9223372036854775807 ∧ (A = none → c = 0) ∧ (∀ ad, A = some ad → S ad.block ∧ (0 < n → ad.block < w.heap.size)) ∧
  ∀ ad, A = some ad → ∀ j, j < n → ∃ Aj nj cj, w.cell? (ad.add j) = some (.slice Aj nj cj) ∧ Txt S w Aj nj cj (ls.getD j [])
theorem TxtL.nil (S : Nat → Prop) (w : World) : TxtL S w none 0 0 [] := ⟨rfl, Nat.le_refl _, by omega, fun _ => rfl, fun _ e => (by cases e), fun _ e => (by cases e)⟩
theorem TxtL.kept {S : Nat → Prop} {w w' : World} {A : Option Addr} {n c : Nat} {ls : List (List Nat)} (h : TxtL S w A n c ls) (hs : w.heap.size ≤ w'.heap.size) (hc : ∀ b, S b → b < w.heap.size → w'.heap[b]? = w.heap[b]?) : TxtL S w' A n c ls := by
  obtain ⟨h1, h2, h3, h4, h5, h6⟩ := h
  refine ⟨h1, h2, h3, h4, fun ad e => ⟨(h5 ad e).1, fun hn => by have := (h5 ad e).2 hn; omega⟩, fun ad e j hj => ?_⟩
  obtain ⟨Aj, nj, cj, hcell, ht⟩ := h6 ad e j hj
  refine ⟨Aj, nj, cj, ?_, ht.kept hs hc⟩
  have hbl : (ad.add j).block = ad.block := by unfold Addr.add; split <;> rfl
  rw [World.cell?_of_block (hc (ad.add j).block (by rw [hbl]; exact (h5 ad e).1) (by rw [hbl]; exact (h5 ad e).2 (by omega)))]
  exact hcell
theorem TxtL.below {S : Nat → Prop} {w w' : World} {A : Option Addr} {n c : Nat} {ls : List (List Nat)} (h : TxtL S w A n c ls) (hb : Below w.heap.size w w') : TxtL S w' A n c ls :=
  h.kept hb.size fun b _ hlt => hb.block b hlt
theorem TxtL.mono {S S' : Nat → Prop} {w : World} {A : Option Addr} {n c : Nat} {ls : List (List Nat)} (h : TxtL S w A n c ls) (hS : ∀ b, S b → S' b) : TxtL S' w A n c ls := by
  obtain ⟨h1, h2, h3, h4, h5, h6⟩ := h
  refine ⟨h1, h2, h3, h4, fun ad e => ⟨hS _ (h5 ad e).1, (h5 ad e).2⟩, fun ad e j hj => ?_⟩
  obtain ⟨Aj, nj, cj, hcell, ht⟩ := h6 ad e j hj
  exact ⟨Aj, nj, cj, hcell, ht.mono hS⟩
theorem TxtL.any {S : Nat → Prop} {w : World} {A : Option Addr} {n c : Nat} {ls : List (List Nat)} (h : TxtL S w A n c ls) : TxtL Any w A n c ls := h.mono fun _ _ => True.intro
theorem TxtL.some {S : Nat → Prop} {w : World} {A : Option Addr} {n c : Nat} {ls : List (List Nat)} (h : TxtL S w A n c ls) (hn : 0 < n) : ∃ ad, A = .some ad := by
  obtain ⟨h1, h2, h3, h4, h5, h6⟩ := h
  cases A with
  | none => have := h4 rfl; omega
  | some ad => exact ⟨ad, rfl⟩
theorem TxtL.all {S : Nat → Prop} {w : World} {A : Option Addr} {n c : Nat} {ls : List (List Nat)} (h : TxtL S w A n c ls) : ∀ s ∈ ls, ∀ j, gt s j < 256 := by
  intro s hs
  obtain ⟨i, hi, e⟩ := List.getElem_of_mem hs
  have hn : i < n := by rw [← h.1]; exact hi
  obtain ⟨ad, e'⟩ := h.some (by omega)
  obtain ⟨Aj, nj, cj, _, ht⟩ := h.2.2.2.2.2 ad e' i hn
  have : ls.getD i [] = s := by rw [List.getD_eq_getElem?_getD, List.getElem?_eq_getElem hi]; exact e
  rw [← this]; exact ht.lt
end Go.Proofs.YtkplkfokpniflaaDoor.Wr

namespace Go.Proofs.YtkplkfokpniflaaDoor.Wr
set_option linter.all false
open Go.RowKit

def okP (n : Nat) (x : Int) : Bool := decide (0 ≤ x) && decide (x ≤ n)
def okS (x : Int) : Bool := decide (x = 1) || decide (x = 2) || decide (x = 4) || decide (x = 8)
theorem okS_true {x : Int} (h : okS x = true) : x = 1 ∨ x = 2 ∨ x = 4 ∨ x = 8 := by
  simp [okS] at h; omega
theorem isSize_any (x : Int) (w : World) : Calls Tryd.prog 54 #[.int .i64 x] w fun e w' => e = .returned (.bool (okS x)) ∧ w = w' := by
  by_cases h1 : x = 1
  · subst h1
    go_enter Tryd.func54, Tryd.ntmps54
    go_wp2
    go_ret
    exact ⟨rfl, rfl⟩
  by_cases h2 : x = 2
  · subst h2
    go_enter Tryd.func54, Tryd.ntmps54
    go_wp2
    go_ret
    exact ⟨rfl, rfl⟩
  by_cases h4 : x = 4
  · subst h4
    go_enter Tryd.func54, Tryd.ntmps54
    go_wp2
    go_ret
    exact ⟨rfl, rfl⟩
  by_cases h8 : x = 8
  · subst h8
    go_enter Tryd.func54, Tryd.ntmps54
    go_wp2
    go_ret
    exact ⟨rfl, rfl⟩
  have : okS x = false := by simp [okS, h1, h2, h4, h8]
  rw [this]
  go_enter Tryd.func54, Tryd.ntmps54
  go_wp2
  go_ret
  exact ⟨rfl, rfl⟩

theorem pow8 (k : Nat) : ((2 : Int) ^ (8 * k)) = ((256 ^ k : Nat) : Int) := by rw [Int.pow_mul, Int.natCast_pow]; rfl
theorem shr_zero {m k : Nat} (h : m < 256 ^ k) : ((m : Int) / 2 ^ (8 * k) != 0) = false := by
  rw [pow8, ← Int.natCast_ediv, Nat.div_eq_of_lt h]; rfl
theorem shr_not {m k : Nat} (h : ¬ m < 256 ^ k) : ((m : Int) / 2 ^ (8 * k) != 0) = true := by
  have h1 : 0 < m / 256 ^ k := Nat.div_pos (by omega) (Nat.pow_pos (by omega))
  rw [pow8, ← Int.natCast_ediv]
  generalize m / 256 ^ k = q at *
  rw [bne_iff_ne]; omega
/-- a number's bytes, or none -/
def numB (n x : Int) : List Nat := if okS x = true ∧ 0 ≤ n ∧ n.toNat < 256 ^ x.toNat then be x.toNat n.toNat else []
theorem numB_lt (n x : Int) : ∀ j, gt (numB n x) j < 256 := by
  unfold numB; split
  · exact be_lt _ _
  · exact fun j => by simp [gt]
def Told (bs : List Nat) (w : World) (e : Ending) (w' : World) : Prop := ∃ A n c, e = .returned (.slice A n c) ∧ Txt (New w.heap.size w') w' A n c bs ∧ Below w.heap.size w w'

def beRow (k n i : Nat) : Nat → Value := fun j => .int .u8 (((if j < i then gt (be k n) j else 0 : Nat)) : Int)
theorem beRow_succ {w : World} {h k n i : Nat} (hR : w.rowIs h 5 k (beRow k n i)) (hi : i < k) {z : Int} (hz : z = ((n / 256 ^ (k - 1 - i) % 256 : Nat) : Int)) :
    (w.setCell ⟨h, i, none⟩ (.int .u8 z)).rowIs h 5 k (beRow k n (i + 1)) := by
  subst hz
  refine (hR.set i _).congr fun j hj => ?_
  by_cases e : j = i
  · subst e; rw [if_pos rfl]; unfold beRow; rw [if_pos (by omega), gt_be _ _ _ hi]
  · rw [if_neg e]; unfold beRow
    by_cases h1 : j < i
    · rw [if_pos h1, if_pos (by omega)]
    · rw [if_neg h1, if_neg (by omega)]

set_option maxHeartbeats 1000000 in
set_option maxRecDepth 100000 in
theorem number_ok (n k : Nat) (w : World) (hk : k = 1 ∨ k = 2 ∨ k = 4 ∨ k = 8) (hn : n < 256 ^ k) (hn' : n < 9223372036854775808) :
    Calls Tryd.prog 39 #[.int .i64 n, .int .i64 k] w (Told (be k n) w) := by
  have hk8 : 1 ≤ k ∧ k ≤ 8 := by omega
  have hoS : okS (k : Int) = true := by rcases hk with rfl | rfl | rfl | rfl <;> rfl
  have hmk := fun W => run_make_row' (P := Tryd.prog) 22 5 (.int .u8 0) 1 Tryd.underlying22 (by kernel_rfl) rfl .i64 .i64 k (by omega) (by omega) W
  have y0 : ¬ (n : Int) < 0 := by omega
  have y1 := shr_zero hn
  have HR0 : Hid ((w.alloc (.cells (madeCells #[Value.int IntKind.u8 0] k) 5)).rowIs w.heap.size 5 k (beRow k n 0)) := Lib.hid ((World.rowIs_made w (.int .u8 0) k 5).congr fun j hj => by simp [beRow])
  have HB0 := Lib.hid ((Below.refl w.heap.size w).alloc (Nat.le_refl _) (.cells (madeCells #[Value.int IntKind.u8 0] k) 5))
  have HN := Lib.hid hn; clear hn
  go_enter Tryd.func39, Tryd.ntmps39
  go_wp2_with fail
  refine (isSize_any k w).mono ?_
  rintro e' w1 ⟨rfl, rfl⟩
  rw [hoS]
  go_wp2
  generalize w.alloc (.cells (madeCells #[Value.int IntKind.u8 0] k) 5) = W0 at *
  go_loopw [25] (fun i W => ∃ j : Nat, j ≤ k ∧ i = .int .i64 j ∧ Hid (W.rowIs w.heap.size 5 k (beRow k n j)) ∧ Hid (Below w.heap.size w W)) (fun i _ => k - (intOf i).toNat)
  case atStart => exact ⟨0, by omega, rfl, HR0, HB0⟩
  case round =>
    obtain ⟨j, hj, rfl, HR1, HB1⟩ := hrel
    by_cases hjk : j < k
    · have c0 := HR1.out.cell (i := j) hjk
      have f0 := HR1.out.frozen j
      have yj : (j : Int) < (k : Int) := by omega
      go_wp2
      go_roundw
      case rel => exact ⟨j + 1, by omega, by go_num, Lib.hid (beRow_succ HR1.out hjk (by rw [Int.natCast_emod, Int.natCast_ediv, Int.natCast_pow, show ((256 : Nat) : Int) = 2 ^ 8 from rfl, ← Int.pow_mul]; simp)), Lib.hid (HB1.out.setCell (Nat.le_refl _) _)⟩
      case measure => simp [intOf]; omega
    · obtain rfl : j = k := by omega
      go_wp2
      go_ret
      exact ⟨_, _, _, rfl, Txt.of_row (bs := be j n) (HR1.out.congr fun i hi => by unfold beRow byteRow wordRow; rw [if_pos hi]) (be_len _ _) (be_lt _ _) (Nat.le_refl _) (by omega), HB1.out⟩

theorem Told.none (w : World) : Told [] w (.returned (.slice .none 0 0)) w := ⟨_, _, _, rfl, Txt.nil _ _, Below.refl _ _⟩
set_option maxHeartbeats 1000000 in
set_option maxRecDepth 100000 in
theorem number_any (n x : Int) (w : World) (hn : n < 9223372036854775808) :
    Calls Tryd.prog 39 #[.int .i64 n, .int .i64 x] w (Told (numB n x) w) := by
  by_cases h1 : okS x = true
  · obtain ⟨k, rfl⟩ : ∃ k : Nat, x = k := ⟨x.toNat, by have := okS_true h1; omega⟩
    by_cases h2 : 0 ≤ n
    · obtain ⟨m, rfl⟩ : ∃ m : Nat, n = m := ⟨n.toNat, by omega⟩
      by_cases h3 : m < 256 ^ k
      · unfold numB
        rw [if_pos ⟨h1, h2, by simpa using h3⟩, Int.toNat_natCast, Int.toNat_natCast]
        exact number_ok m k w (by have := okS_true h1; omega) h3 (by omega)
      · have hne : numB m k = [] := by unfold numB; rw [if_neg]; rintro ⟨-, -, h⟩; exact h3 (by simpa using h)
        rw [hne]
        have hk8 : 1 ≤ k ∧ k ≤ 8 := by have := okS_true h1; omega
        have y0 : ¬ (m : Int) < 0 := by omega
        have y1 := shr_not h3
        clear h3
        go_enter Tryd.func39, Tryd.ntmps39
        go_wp2_with fail
        refine (isSize_any k w).mono ?_
        rintro e' w1 ⟨rfl, rfl⟩
        rw [h1]
        go_wp2
        go_ret
        exact Told.none _
    · have hne : numB n k = [] := by unfold numB; rw [if_neg]; rintro ⟨-, h, -⟩; exact h2 h
      rw [hne]
      go_enter Tryd.func39, Tryd.ntmps39
      go_wp2_with fail
      refine (isSize_any k w).mono ?_
      rintro e' w1 ⟨rfl, rfl⟩
      rw [h1]
      go_wp2
      go_ret
      exact Told.none _
  · have h1' : okS x = false := by cases h : okS x <;> simp_all
    have hne : numB n x = [] := by unfold numB; rw [if_neg]; rintro ⟨h, -, -⟩; exact h1 h
    rw [hne]
    go_enter Tryd.func39, Tryd.ntmps39
    go_wp2_with fail
    refine (isSize_any x w).mono ?_
    rintro e' w1 ⟨rfl, rfl⟩
    rw [h1']
    go_wp2
    go_ret
    exact Told.none _
end Go.Proofs.YtkplkfokpniflaaDoor.Wr

namespace Go.Proofs.YtkplkfokpniflaaDoor.Wr
set_option linter.all false
open Go.RowKit

/-- what is told of a number that stands at a place -/
def getN (b : List Nat) (x s : Int) : Nat × Nat × Nat :=
  if okP b.length x = false ∨ okS s = false then (0, 0, 1) else if b.length < x.toNat + s.toNat then (0, 0, 111)
  else if 9223372036854775807 < num b x.toNat s.toNat then (0, 0, 112) else (num b x.toNat s.toNat, x.toNat + s.toNat, 0)
def Say3 (r : Nat × Nat × Nat) (w : World) (e : Ending) (w' : World) : Prop := e = .returned (.tuple #[.int .i64 r.1, .int .i64 r.2.1, .int .i64 r.2.2]) ∧ w = w'
theorem or_join (m v : Nat) (hv : v < 256) : m * 256 ||| v = m * 256 + v := nat_join 8 (m * 256) v (by simp) hv
theorem shl_or {m v j N : Nat} (hm : m < 256 ^ j) (hj : j < 8) (hv : v < 256) (h : N = m * 256 + v) : bits .or .u64 (IntKind.u64.wrap ((m : Int) * 256)) (IntKind.u64.wrap (v : Int)) = (N : Int) := by
  subst h
  have hl : 256 ^ j ≤ 256 ^ 7 := Nat.pow_le_pow_right (by omega) (by omega)
  have hm' : m < 72057594037927936 := Nat.lt_of_lt_of_le hm hl
  have e1 : IntKind.u64.wrap ((m : Int) * 256) = ((m * 256 : Nat) : Int) := by rw [IntKind.wrap_u64]; omega
  have e2 : IntKind.u64.wrap (v : Int) = (v : Int) := by rw [IntKind.wrap_u64]; omega
  rw [e1, e2, u64_or_nat _ _ (by omega) (by omega), or_join _ _ hv]

def fin (N to : Nat) : Nat × Nat × Nat := if 9223372036854775807 < N then (0, 0, 112) else (N, to, 0)
end Go.Proofs.YtkplkfokpniflaaDoor.Wr

namespace Go.Proofs.YtkplkfokpniflaaDoor.Wr
set_option linter.all false
open Go.RowKit

theorem New.mono {lo lo' : Nat} {w : World} (h : lo' ≤ lo) : ∀ b, New lo w b → New lo' w b := fun b hb => ⟨Nat.le_trans h hb.1, hb.2⟩
theorem Told.up {bs : List Nat} {w w1 w' : World} {e : Ending} (h : Told bs w1 e w') (hb : Below w.heap.size w w1) : Told bs w e w' := by
  obtain ⟨A, n, c, rfl, ht, hb'⟩ := h
  exact ⟨A, n, c, rfl, ht.mono (New.mono hb.size), hb.trans (hb'.mono hb.size)⟩
end Go.Proofs.YtkplkfokpniflaaDoor.Wr

namespace Go.Proofs.YtkplkfokpniflaaDoor.Wr
set_option linter.all false
open Go.RowKit Go.Lib

/-- room for n bytes, of nothing -/
def Room (n : Nat) (w : World) (e : Ending) (w' : World) : Prop :=
  ∃ g cap, e = .returned (.slice (some ⟨g, 0, none⟩) 0 cap) ∧ w'.ownsRow w.heap.size 5 1 (.slice (some ⟨g, 0, none⟩) 0 cap) 0 (bcells []) ∧ Below w.heap.size w w'
/-- append of a text onto a row of one's own, nil let in -/
theorem run_append_txt {w : World} (base n m c : Nat) (ty : TypeId) (v : Value) (xs ys : List Nat) (A : Option Addr) (S : Nat → Prop) (hown : w.ownsRow base 5 1 v n (bcells xs))
    (hT : Txt S w A m c ys) (hbd : n + m ≤ 140737488355328) (hbase : base ≤ w.heap.size) :
    ∃ v' w', (Builtin.append_ #[22, 22] ty #[v, .slice A m c]).run Tryd.prog w = .ok v' w' ∧ w'.ownsRow base 5 1 v' (n + m) (bcells (xs ++ ys)) ∧ w.grownBy w' v.ownBlock ∧ (v'.ownBlock = v.ownBlock ∨ v'.ownBlock = some w.heap.size) := by
  obtain ⟨i, hi, hz, hsz, hby⟩ := byteInfo
  obtain ⟨hR, hm, hmc, hc9, hc, hS⟩ := hT
  cases A with
  | none =>
    have hc0 := hc rfl
    obtain rfl : m = 0 := by omega
    have hy : ys = [] := List.eq_nil_of_length_eq_zero (by omega)
    subst hy hc0
    exact ⟨v, w, run_append_owned_none (P := Tryd.prog) (w := w) base 22 ty 5 i 1 Tryd.underlying22 hi _ n (bcells xs) hown, by simpa using hown, World.grownBy.refl _ _, .inl rfl⟩
  | some ad =>
    obtain ⟨v', w', hrun, h1, h2, h3, h4⟩ := run_append_own_at (P := Tryd.prog) w base 22 ty 5 i (.int .u8 0) 1 1 Tryd.underlying22 hi hz hsz hby rfl (by omega) _ n (bcells xs) hown ad m c (bcells ys) (by rw [bcells_len]; omega)
      (news_of_rd hR) (bcells_one ys) (by unfold maxLen; omega) (by omega) hbase
    rw [← bcells_append] at h1
    exact ⟨v', w', hrun, h1, h2, h4⟩
theorem wp_append_txt {o : Oper} {a : Act} {w : World} {K : Act → World → Prop} {Q : Exit → Act → World → Prop} (s x : Operand)
    (ho : o.op = .call { callee := .builtin .append, args := #[s, x], argTypes := #[22, 22] }) (base n m c : Nat) (v : Value) (xs ys : List Nat) (A : Option Addr) (S : Nat → Prop)
    (hs : a.eval s = v) (hx : a.eval x = .slice A m c) (hown : w.ownsRow base 5 1 v n (bcells xs)) (hT : Txt S w A m c ys) (hbd : n + m ≤ 140737488355328) (hbase : base ≤ w.heap.size)
    (k : ∀ v' w', w'.ownsRow base 5 1 v' (n + m) (bcells (xs ++ ys)) → w.grownBy w' v.ownBlock → (v'.ownBlock = v.ownBlock ∨ v'.ownBlock = some w.heap.size) → K (a.put o.dst v') w') :
    Oper.wp Tryd.prog o a w K Q := by
  obtain ⟨v', w', hrun, h1, h2, h3⟩ := run_append_txt base n m c o.type v xs ys A S hown hT hbd hbase
  unfold Oper.wp execOp
  simp only [ho, resolve, invoke, builtin, Sem.run_bind, Sem.run_pure, Result.andThen_ok, List.map_toArray, List.map_cons, List.map_nil, hs, hx, hrun]
  exact k v' w' h1 h2 h3
theorem wpList_append_txt {ops : Array Oper} {rest : List Oper} {o : Oper} {a : Act} {w : World} {Q : Exit → Act → World → Prop} (hgd : o.guard = none) (s x : Operand)
    (ho : o.op = .call { callee := .builtin .append, args := #[s, x], argTypes := #[22, 22] }) (base n m c : Nat) (v : Value) (xs ys : List Nat) (A : Option Addr) (S : Nat → Prop)
    (hs : a.eval s = v) (hx : a.eval x = .slice A m c) (hown : w.ownsRow base 5 1 v n (bcells xs)) (hT : Txt S w A m c ys) (hbd : n + m ≤ 140737488355328) (hbase : base ≤ w.heap.size)
    (k : ∀ v' w', w'.ownsRow base 5 1 v' (n + m) (bcells (xs ++ ys)) → w.grownBy w' v.ownBlock → (v'.ownBlock = v.ownBlock ∨ v'.ownBlock = some w.heap.size) → wpList Tryd.prog ops Q rest (a.put o.dst v') w') :
    wpList Tryd.prog ops Q (o :: rest) a w :=
  wpList_plain hgd fun _ hK => wp_append_txt s x ho base n m c v xs ys A S hs hx hown hT hbd hbase fun v' w' h1 h2 h3 => hK _ _ (k v' w' h1 h2 h3)
theorem own_slice_of {w : World} {base n : Nat} {v : Value} {xs : List Value} (h : w.ownsRow base 5 1 v n xs) : ∃ A c, v = .slice A n c := by
  rcases h.2 with ⟨e, h0⟩ | ⟨g, c, cur, e, _⟩
  · subst h0; exact ⟨_, _, e⟩
  · exact ⟨_, _, e⟩
theorem below_own {w w1 w2 : World} {v : Value} {base n : Nat} {xs : List Value} (h : Below w.heap.size w w1) (ho : w1.ownsRow base 5 1 v n xs) (hb : w.heap.size ≤ base) (k : w1.grownBy w2 v.ownBlock) : Below w.heap.size w w2 := by
  refine ⟨k.os.trans h.os, k.tape.trans h.tape, k.output.trans h.output, Nat.le_trans h.size k.size, fun i hi => (k.block i (Nat.lt_of_lt_of_le hi h.size) ?_).trans (h.block i hi)⟩
  rcases ho.2 with ⟨e, _⟩ | ⟨g, c, cur, e, hg, _⟩
  · subst e; intro e; cases e
  · subst e; intro e; injection e with e; have : i = g := e; omega

end Go.Proofs.YtkplkfokpniflaaDoor.Wr

namespace Go.Proofs.YtkplkfokpniflaaDoor.Wr
set_option linter.all false
open Go.RowKit

theorem be_take_succ (k n j : Nat) (h : j < k) : (be k n).take (j + 1) = (be k n).take j ++ [n / 256 ^ (k - 1 - j) % 256] := by
  rw [List.take_succ_eq_append_getElem (by rw [be_len]; exact h)]
  congr 2
  have := gt_be k n j h
  unfold gt at this
  rw [List.getD_eq_getElem?_getD, List.getElem?_eq_getElem (by rw [be_len]; exact h)] at this
  exact this
theorem byte_rd (w : World) (x : Nat) (z : Int) (hz : z = (x : Int)) (hx : x < 256) : Txt Any (w.alloc (.cells #[.int .u8 z] 5)) (some ⟨w.heap.size, 0, none⟩) 1 1 [x] := by
  subst hz
  refine ⟨⟨gt_lt_of_mem (by intro y hy; simp at hy; omega), fun _ => ⟨_, rfl, by simp, fun j hj => ?_⟩⟩, rfl, by omega, by omega, fun e => (by cases e), fun _ _ => True.intro⟩
  have hj0 : j = 0 := by simp at hj; exact hj
  subst hj0
  show (w.alloc (.cells #[.int .u8 (x : Int)] 5)).cell? ⟨w.heap.size, 0, none⟩ = _
  rw [cell_of_row _ _ 0 _ 5 (0, 0) (heap_alloc_last w _), gt_cons_zero]; rfl

set_option maxHeartbeats 2000000 in
set_option maxRecDepth 100000 in
theorem rnumber_1 (n : Nat) (w : World) (hn : n < 256) (r : List Nat) (hr : Hid (be 1 n = r)) :
    Calls Tryd.prog 29 #[.int .i64 n, .int .i64 1] w (Told r w) := by
  have y0 : ¬ (n : Int) < 0 := by omega
  have y1 : (n : Int) / 256 = 0 := by omega
  have y1' : (n : Int) / 2 ^ 8 = 0 := by rw [show ((2 : Int) ^ 8) = 256 from rfl]; omega
  have HN := Lib.hid hn; clear hn
  go_enter Tryd.func29, Tryd.ntmps29
  go_wp2
  go_loopw [5, 6] (fun v i W => ∃ (j m cC : Nat) (C : Option Addr) (y : Int), i = .int .i64 y ∧ v = .slice C m cC ∧ j ≤ 1 ∧ m = j ∧ y = 1 - 1 - (j : Int) ∧ Hid (W.ownsRow w.heap.size 5 1 (.slice C m cC) m (bcells ((be 1 n).take j))) ∧ Hid (Below w.heap.size w W)) (fun _ i _ => (intOf i + 1).toNat)
  case atStart => exact ⟨0, 0, 0, none, 0, rfl, rfl, by omega, rfl, by omega, Lib.hid ⟨rfl, .inl ⟨rfl, rfl⟩⟩, Lib.hid (Below.refl _ _)⟩
  case round =>
    obtain ⟨j, m, cC, C, y, rfl, rfl, hj, hm, hy, HO, HB⟩ := hrel
    by_cases hjk : j < 1
    · have hj' : j = 0 := by omega
      rcases hj' with rfl
      · obtain rfl : y = 0 := by omega
        subst hm
        have HSUC : Hid ((be 1 n).take 1 = (be 1 n).take 0 ++ [n % 256]) := Lib.hid (by rw [be_take_succ 1 n 0 (by omega)]; simp)
        obtain ⟨xs, hxs⟩ : ∃ xs, (be 1 n).take 0 = xs := ⟨_, rfl⟩
        rw [hxs] at HSUC HO
        obtain ⟨b, hb⟩ : ∃ b : Nat, n % 256 = b := ⟨_, rfl⟩
        rw [hb] at HSUC
        have HB3 := Lib.hid (show b < 256 by omega)
        have HBE := Lib.hid hb
        clear hxs hb hy hj hjk
        go_wp2_with (at_builtin; refine wpList_append_txt rfl (.tmp 42) (.tmp 48) rfl w.heap.size 0 1 1 _ xs [b] (some ⟨wr.heap.size, 0, none⟩) Any rfl rfl (HO.out.alloc _) (byte_rd wr b _ (by have := HBE.out; have := HN.out; omega) HB3.out) (by omega) (Nat.le_trans HB.out.size (by simp)) ?_)
        intro v' W2 hown hgrow hat
        obtain ⟨C', c', rfl⟩ := own_slice_of hown
        have HO3 := Lib.hid hown; have HB4 := Lib.hid (below_own (HB.out.alloc HB.out.size _) (HO.out.alloc _) (Nat.le_refl _) hgrow); clear hown hgrow hat
        go_wp2
        go_roundw
        case rel => exact ⟨1, 1, c', C', -1, by go_num, rfl, by omega, rfl, by omega, Lib.hid (by rw [HSUC.out]; exact HO3.out), HB4⟩
        case measure => simp [intOf]
    · obtain rfl : y = -1 := by omega
      obtain rfl : j = 1 := by omega
      subst hm
      clear hy hj hjk
      have HX := Lib.hid (show (be 1 n).take 1 = r by rw [← hr.out]; exact List.take_of_length_le (by rw [be_len]; omega))
      have HLT := Lib.hid (show ∀ j, gt r j < 256 by rw [← hr.out]; exact be_lt _ _)
      rw [HX.out] at HO
      obtain ⟨C', c', e, hX⟩ := Txt.of_own HO.out HLT.out
      injection e with e1 _ e3
      subst e1 e3
      have HXX := Lib.hid hX; clear hX
      go_wp2
      go_ret
      exact ⟨_, _, _, rfl, HXX.out, HB.out⟩
set_option maxHeartbeats 2000000 in
set_option maxRecDepth 100000 in
theorem rnumber_2 (n : Nat) (w : World) (hn : n < 65536) (r : List Nat) (hr : Hid (be 2 n = r)) :
    Calls Tryd.prog 29 #[.int .i64 n, .int .i64 2] w (Told r w) := by
  have y0 : ¬ (n : Int) < 0 := by omega
  have y1 : (n : Int) / 65536 = 0 := by omega
  have y1' : (n : Int) / 2 ^ 16 = 0 := by rw [show ((2 : Int) ^ 16) = 65536 from rfl]; omega
  have HN := Lib.hid hn; clear hn
  go_enter Tryd.func29, Tryd.ntmps29
  go_wp2
  go_loopw [5, 6] (fun v i W => ∃ (j m cC : Nat) (C : Option Addr) (y : Int), i = .int .i64 y ∧ v = .slice C m cC ∧ j ≤ 2 ∧ m = j ∧ y = 2 - 1 - (j : Int) ∧ Hid (W.ownsRow w.heap.size 5 1 (.slice C m cC) m (bcells ((be 2 n).take j))) ∧ Hid (Below w.heap.size w W)) (fun _ i _ => (intOf i + 1).toNat)
  case atStart => exact ⟨0, 0, 0, none, 1, rfl, rfl, by omega, rfl, by omega, Lib.hid ⟨rfl, .inl ⟨rfl, rfl⟩⟩, Lib.hid (Below.refl _ _)⟩
  case round =>
    obtain ⟨j, m, cC, C, y, rfl, rfl, hj, hm, hy, HO, HB⟩ := hrel
    by_cases hjk : j < 2
    · have hj' : j = 0 ∨ j = 1 := by omega
      rcases hj' with rfl | rfl
      · obtain rfl : y = 1 := by omega
        subst hm
        have HSUC : Hid ((be 2 n).take 1 = (be 2 n).take 0 ++ [n / 256 % 256]) := Lib.hid (by rw [be_take_succ 2 n 0 (by omega)])
        obtain ⟨xs, hxs⟩ : ∃ xs, (be 2 n).take 0 = xs := ⟨_, rfl⟩
        rw [hxs] at HSUC HO
        obtain ⟨b, hb⟩ : ∃ b : Nat, n / 256 % 256 = b := ⟨_, rfl⟩
        rw [hb] at HSUC
        have HB3 := Lib.hid (show b < 256 by omega)
        have HBE := Lib.hid hb
        clear hxs hb hy hj hjk
        go_wp2_with (at_builtin; refine wpList_append_txt rfl (.tmp 42) (.tmp 48) rfl w.heap.size 0 1 1 _ xs [b] (some ⟨wr.heap.size, 0, none⟩) Any rfl rfl (HO.out.alloc _) (byte_rd wr b _ (by have := HBE.out; have := HN.out; omega) HB3.out) (by omega) (Nat.le_trans HB.out.size (by simp)) ?_)
        intro v' W2 hown hgrow hat
        obtain ⟨C', c', rfl⟩ := own_slice_of hown
        have HO3 := Lib.hid hown; have HB4 := Lib.hid (below_own (HB.out.alloc HB.out.size _) (HO.out.alloc _) (Nat.le_refl _) hgrow); clear hown hgrow hat
        go_wp2
        go_roundw
        case rel => exact ⟨1, 1, c', C', 0, by go_num, rfl, by omega, rfl, by omega, Lib.hid (by rw [HSUC.out]; exact HO3.out), HB4⟩
        case measure => simp [intOf]
      · obtain rfl : y = 0 := by omega
        subst hm
        have HSUC : Hid ((be 2 n).take 2 = (be 2 n).take 1 ++ [n % 256]) := Lib.hid (by rw [be_take_succ 2 n 1 (by omega)]; simp)
        obtain ⟨xs, hxs⟩ : ∃ xs, (be 2 n).take 1 = xs := ⟨_, rfl⟩
        rw [hxs] at HSUC HO
        obtain ⟨b, hb⟩ : ∃ b : Nat, n % 256 = b := ⟨_, rfl⟩
        rw [hb] at HSUC
        have HB3 := Lib.hid (show b < 256 by omega)
        have HBE := Lib.hid hb
        clear hxs hb hy hj hjk
        go_wp2_with (at_builtin; refine wpList_append_txt rfl (.tmp 42) (.tmp 48) rfl w.heap.size 1 1 1 _ xs [b] (some ⟨wr.heap.size, 0, none⟩) Any rfl rfl (HO.out.alloc _) (byte_rd wr b _ (by have := HBE.out; have := HN.out; omega) HB3.out) (by omega) (Nat.le_trans HB.out.size (by simp)) ?_)
        intro v' W2 hown hgrow hat
        obtain ⟨C', c', rfl⟩ := own_slice_of hown
        have HO3 := Lib.hid hown; have HB4 := Lib.hid (below_own (HB.out.alloc HB.out.size _) (HO.out.alloc _) (Nat.le_refl _) hgrow); clear hown hgrow hat
        go_wp2
        go_roundw
        case rel => exact ⟨2, 2, c', C', -1, by go_num, rfl, by omega, rfl, by omega, Lib.hid (by rw [HSUC.out]; exact HO3.out), HB4⟩
        case measure => simp [intOf]
    · obtain rfl : y = -1 := by omega
      obtain rfl : j = 2 := by omega
      subst hm
      clear hy hj hjk
      have HX := Lib.hid (show (be 2 n).take 2 = r by rw [← hr.out]; exact List.take_of_length_le (by rw [be_len]; omega))
      have HLT := Lib.hid (show ∀ j, gt r j < 256 by rw [← hr.out]; exact be_lt _ _)
      rw [HX.out] at HO
      obtain ⟨C', c', e, hX⟩ := Txt.of_own HO.out HLT.out
      injection e with e1 _ e3
      subst e1 e3
      have HXX := Lib.hid hX; clear hX
      go_wp2
      go_ret
      exact ⟨_, _, _, rfl, HXX.out, HB.out⟩
set_option maxHeartbeats 2000000 in
set_option maxRecDepth 100000 in
theorem rnumber_4 (n : Nat) (w : World) (hn : n < 4294967296) (r : List Nat) (hr : Hid (be 4 n = r)) :
    Calls Tryd.prog 29 #[.int .i64 n, .int .i64 4] w (Told r w) := by
  have y0 : ¬ (n : Int) < 0 := by omega
  have y1 : (n : Int) / 4294967296 = 0 := by omega
  have y1' : (n : Int) / 2 ^ 32 = 0 := by rw [show ((2 : Int) ^ 32) = 4294967296 from rfl]; omega
  have HN := Lib.hid hn; clear hn
  go_enter Tryd.func29, Tryd.ntmps29
  go_wp2
  go_loopw [5, 6] (fun v i W => ∃ (j m cC : Nat) (C : Option Addr) (y : Int), i = .int .i64 y ∧ v = .slice C m cC ∧ j ≤ 4 ∧ m = j ∧ y = 4 - 1 - (j : Int) ∧ Hid (W.ownsRow w.heap.size 5 1 (.slice C m cC) m (bcells ((be 4 n).take j))) ∧ Hid (Below w.heap.size w W)) (fun _ i _ => (intOf i + 1).toNat)
  case atStart => exact ⟨0, 0, 0, none, 3, rfl, rfl, by omega, rfl, by omega, Lib.hid ⟨rfl, .inl ⟨rfl, rfl⟩⟩, Lib.hid (Below.refl _ _)⟩
  case round =>
    obtain ⟨j, m, cC, C, y, rfl, rfl, hj, hm, hy, HO, HB⟩ := hrel
    by_cases hjk : j < 4
    · have hj' : j = 0 ∨ j = 1 ∨ j = 2 ∨ j = 3 := by omega
      rcases hj' with rfl | rfl | rfl | rfl
      · obtain rfl : y = 3 := by omega
        subst hm
        have HSUC : Hid ((be 4 n).take 1 = (be 4 n).take 0 ++ [n / 16777216 % 256]) := Lib.hid (by rw [be_take_succ 4 n 0 (by omega)])
        obtain ⟨xs, hxs⟩ : ∃ xs, (be 4 n).take 0 = xs := ⟨_, rfl⟩
        rw [hxs] at HSUC HO
        obtain ⟨b, hb⟩ : ∃ b : Nat, n / 16777216 % 256 = b := ⟨_, rfl⟩
        rw [hb] at HSUC
        have HB3 := Lib.hid (show b < 256 by omega)
        have HBE := Lib.hid hb
        clear hxs hb hy hj hjk
        go_wp2_with (at_builtin; refine wpList_append_txt rfl (.tmp 42) (.tmp 48) rfl w.heap.size 0 1 1 _ xs [b] (some ⟨wr.heap.size, 0, none⟩) Any rfl rfl (HO.out.alloc _) (byte_rd wr b _ (by have := HBE.out; have := HN.out; omega) HB3.out) (by omega) (Nat.le_trans HB.out.size (by simp)) ?_)
        intro v' W2 hown hgrow hat
        obtain ⟨C', c', rfl⟩ := own_slice_of hown
        have HO3 := Lib.hid hown; have HB4 := Lib.hid (below_own (HB.out.alloc HB.out.size _) (HO.out.alloc _) (Nat.le_refl _) hgrow); clear hown hgrow hat
        go_wp2
        go_roundw
        case rel => exact ⟨1, 1, c', C', 2, by go_num, rfl, by omega, rfl, by omega, Lib.hid (by rw [HSUC.out]; exact HO3.out), HB4⟩
        case measure => simp [intOf]
      · obtain rfl : y = 2 := by omega
        subst hm
        have HSUC : Hid ((be 4 n).take 2 = (be 4 n).take 1 ++ [n / 65536 % 256]) := Lib.hid (by rw [be_take_succ 4 n 1 (by omega)])
        obtain ⟨xs, hxs⟩ : ∃ xs, (be 4 n).take 1 = xs := ⟨_, rfl⟩
        rw [hxs] at HSUC HO
        obtain ⟨b, hb⟩ : ∃ b : Nat, n / 65536 % 256 = b := ⟨_, rfl⟩
        rw [hb] at HSUC
        have HB3 := Lib.hid (show b < 256 by omega)
        have HBE := Lib.hid hb
        clear hxs hb hy hj hjk
        go_wp2_with (at_builtin; refine wpList_append_txt rfl (.tmp 42) (.tmp 48) rfl w.heap.size 1 1 1 _ xs [b] (some ⟨wr.heap.size, 0, none⟩) Any rfl rfl (HO.out.alloc _) (byte_rd wr b _ (by have := HBE.out; have := HN.out; omega) HB3.out) (by omega) (Nat.le_trans HB.out.size (by simp)) ?_)
        intro v' W2 hown hgrow hat
        obtain ⟨C', c', rfl⟩ := own_slice_of hown
        have HO3 := Lib.hid hown; have HB4 := Lib.hid (below_own (HB.out.alloc HB.out.size _) (HO.out.alloc _) (Nat.le_refl _) hgrow); clear hown hgrow hat
        go_wp2
        go_roundw
        case rel => exact ⟨2, 2, c', C', 1, by go_num, rfl, by omega, rfl, by omega, Lib.hid (by rw [HSUC.out]; exact HO3.out), HB4⟩
        case measure => simp [intOf]
      · obtain rfl : y = 1 := by omega
        subst hm
        have HSUC : Hid ((be 4 n).take 3 = (be 4 n).take 2 ++ [n / 256 % 256]) := Lib.hid (by rw [be_take_succ 4 n 2 (by omega)])
        obtain ⟨xs, hxs⟩ : ∃ xs, (be 4 n).take 2 = xs := ⟨_, rfl⟩
        rw [hxs] at HSUC HO
        obtain ⟨b, hb⟩ : ∃ b : Nat, n / 256 % 256 = b := ⟨_, rfl⟩
        rw [hb] at HSUC
        have HB3 := Lib.hid (show b < 256 by omega)
        have HBE := Lib.hid hb
        clear hxs hb hy hj hjk
        go_wp2_with (at_builtin; refine wpList_append_txt rfl (.tmp 42) (.tmp 48) rfl w.heap.size 2 1 1 _ xs [b] (some ⟨wr.heap.size, 0, none⟩) Any rfl rfl (HO.out.alloc _) (byte_rd wr b _ (by have := HBE.out; have := HN.out; omega) HB3.out) (by omega) (Nat.le_trans HB.out.size (by simp)) ?_)
        intro v' W2 hown hgrow hat
        obtain ⟨C', c', rfl⟩ := own_slice_of hown
        have HO3 := Lib.hid hown; have HB4 := Lib.hid (below_own (HB.out.alloc HB.out.size _) (HO.out.alloc _) (Nat.le_refl _) hgrow); clear hown hgrow hat
        go_wp2
        go_roundw
        case rel => exact ⟨3, 3, c', C', 0, by go_num, rfl, by omega, rfl, by omega, Lib.hid (by rw [HSUC.out]; exact HO3.out), HB4⟩
        case measure => simp [intOf]
      · obtain rfl : y = 0 := by omega
        subst hm
        have HSUC : Hid ((be 4 n).take 4 = (be 4 n).take 3 ++ [n % 256]) := Lib.hid (by rw [be_take_succ 4 n 3 (by omega)]; simp)
        obtain ⟨xs, hxs⟩ : ∃ xs, (be 4 n).take 3 = xs := ⟨_, rfl⟩
        rw [hxs] at HSUC HO
        obtain ⟨b, hb⟩ : ∃ b : Nat, n % 256 = b := ⟨_, rfl⟩
        rw [hb] at HSUC
        have HB3 := Lib.hid (show b < 256 by omega)
        have HBE := Lib.hid hb
        clear hxs hb hy hj hjk
        go_wp2_with (at_builtin; refine wpList_append_txt rfl (.tmp 42) (.tmp 48) rfl w.heap.size 3 1 1 _ xs [b] (some ⟨wr.heap.size, 0, none⟩) Any rfl rfl (HO.out.alloc _) (byte_rd wr b _ (by have := HBE.out; have := HN.out; omega) HB3.out) (by omega) (Nat.le_trans HB.out.size (by simp)) ?_)
        intro v' W2 hown hgrow hat
        obtain ⟨C', c', rfl⟩ := own_slice_of hown
        have HO3 := Lib.hid hown; have HB4 := Lib.hid (below_own (HB.out.alloc HB.out.size _) (HO.out.alloc _) (Nat.le_refl _) hgrow); clear hown hgrow hat
        go_wp2
        go_roundw
        case rel => exact ⟨4, 4, c', C', -1, by go_num, rfl, by omega, rfl, by omega, Lib.hid (by rw [HSUC.out]; exact HO3.out), HB4⟩
        case measure => simp [intOf]
    · obtain rfl : y = -1 := by omega
      obtain rfl : j = 4 := by omega
      subst hm
      clear hy hj hjk
      have HX := Lib.hid (show (be 4 n).take 4 = r by rw [← hr.out]; exact List.take_of_length_le (by rw [be_len]; omega))
      have HLT := Lib.hid (show ∀ j, gt r j < 256 by rw [← hr.out]; exact be_lt _ _)
      rw [HX.out] at HO
      obtain ⟨C', c', e, hX⟩ := Txt.of_own HO.out HLT.out
      injection e with e1 _ e3
      subst e1 e3
      have HXX := Lib.hid hX; clear hX
      go_wp2
      go_ret
      exact ⟨_, _, _, rfl, HXX.out, HB.out⟩
set_option maxHeartbeats 2000000 in
set_option maxRecDepth 100000 in
theorem rnumber_8 (n : Nat) (w : World) (hn : n < 9223372036854775808) (r : List Nat) (hr : Hid (be 8 n = r)) :
    Calls Tryd.prog 29 #[.int .i64 n, .int .i64 8] w (Told r w) := by
  have y0 : ¬ (n : Int) < 0 := by omega
  have HN := Lib.hid hn; clear hn
  go_enter Tryd.func29, Tryd.ntmps29
  go_wp2
  go_loopw [5, 6] (fun v i W => ∃ (j m cC : Nat) (C : Option Addr) (y : Int), i = .int .i64 y ∧ v = .slice C m cC ∧ j ≤ 8 ∧ m = j ∧ y = 8 - 1 - (j : Int) ∧ Hid (W.ownsRow w.heap.size 5 1 (.slice C m cC) m (bcells ((be 8 n).take j))) ∧ Hid (Below w.heap.size w W)) (fun _ i _ => (intOf i + 1).toNat)
  case atStart => exact ⟨0, 0, 0, none, 7, rfl, rfl, by omega, rfl, by omega, Lib.hid ⟨rfl, .inl ⟨rfl, rfl⟩⟩, Lib.hid (Below.refl _ _)⟩
  case round =>
    obtain ⟨j, m, cC, C, y, rfl, rfl, hj, hm, hy, HO, HB⟩ := hrel
    by_cases hjk : j < 8
    · have hj' : j = 0 ∨ j = 1 ∨ j = 2 ∨ j = 3 ∨ j = 4 ∨ j = 5 ∨ j = 6 ∨ j = 7 := by omega
      rcases hj' with rfl | rfl | rfl | rfl | rfl | rfl | rfl | rfl
      · obtain rfl : y = 7 := by omega
        subst hm
        have HSUC : Hid ((be 8 n).take 1 = (be 8 n).take 0 ++ [n / 72057594037927936 % 256]) := Lib.hid (by rw [be_take_succ 8 n 0 (by omega)])
        obtain ⟨xs, hxs⟩ : ∃ xs, (be 8 n).take 0 = xs := ⟨_, rfl⟩
        rw [hxs] at HSUC HO
        obtain ⟨b, hb⟩ : ∃ b : Nat, n / 72057594037927936 % 256 = b := ⟨_, rfl⟩
        rw [hb] at HSUC
        have HB3 := Lib.hid (show b < 256 by omega)
        have HBE := Lib.hid hb
        clear hxs hb hy hj hjk
        go_wp2_with (at_builtin; refine wpList_append_txt rfl (.tmp 42) (.tmp 48) rfl w.heap.size 0 1 1 _ xs [b] (some ⟨wr.heap.size, 0, none⟩) Any rfl rfl (HO.out.alloc _) (byte_rd wr b _ (by have := HBE.out; have := HN.out; omega) HB3.out) (by omega) (Nat.le_trans HB.out.size (by simp)) ?_)
        intro v' W2 hown hgrow hat
        obtain ⟨C', c', rfl⟩ := own_slice_of hown
        have HO3 := Lib.hid hown; have HB4 := Lib.hid (below_own (HB.out.alloc HB.out.size _) (HO.out.alloc _) (Nat.le_refl _) hgrow); clear hown hgrow hat
        go_wp2
        go_roundw
        case rel => exact ⟨1, 1, c', C', 6, by go_num, rfl, by omega, rfl, by omega, Lib.hid (by rw [HSUC.out]; exact HO3.out), HB4⟩
        case measure => simp [intOf]
      · obtain rfl : y = 6 := by omega
        subst hm
        have HSUC : Hid ((be 8 n).take 2 = (be 8 n).take 1 ++ [n / 281474976710656 % 256]) := Lib.hid (by rw [be_take_succ 8 n 1 (by omega)])
        obtain ⟨xs, hxs⟩ : ∃ xs, (be 8 n).take 1 = xs := ⟨_, rfl⟩
        rw [hxs] at HSUC HO
        obtain ⟨b, hb⟩ : ∃ b : Nat, n / 281474976710656 % 256 = b := ⟨_, rfl⟩
        rw [hb] at HSUC
        have HB3 := Lib.hid (show b < 256 by omega)
        have HBE := Lib.hid hb
        clear hxs hb hy hj hjk
        go_wp2_with (at_builtin; refine wpList_append_txt rfl (.tmp 42) (.tmp 48) rfl w.heap.size 1 1 1 _ xs [b] (some ⟨wr.heap.size, 0, none⟩) Any rfl rfl (HO.out.alloc _) (byte_rd wr b _ (by have := HBE.out; have := HN.out; omega) HB3.out) (by omega) (Nat.le_trans HB.out.size (by simp)) ?_)
        intro v' W2 hown hgrow hat
        obtain ⟨C', c', rfl⟩ := own_slice_of hown
        have HO3 := Lib.hid hown; have HB4 := Lib.hid (below_own (HB.out.alloc HB.out.size _) (HO.out.alloc _) (Nat.le_refl _) hgrow); clear hown hgrow hat
        go_wp2
        go_roundw
        case rel => exact ⟨2, 2, c', C', 5, by go_num, rfl, by omega, rfl, by omega, Lib.hid (by rw [HSUC.out]; exact HO3.out), HB4⟩
        case measure => simp [intOf]
      · obtain rfl : y = 5 := by omega
        subst hm
        have HSUC : Hid ((be 8 n).take 3 = (be 8 n).take 2 ++ [n / 1099511627776 % 256]) := Lib.hid (by rw [be_take_succ 8 n 2 (by omega)])
        obtain ⟨xs, hxs⟩ : ∃ xs, (be 8 n).take 2 = xs := ⟨_, rfl⟩
        rw [hxs] at HSUC HO
        obtain ⟨b, hb⟩ : ∃ b : Nat, n / 1099511627776 % 256 = b := ⟨_, rfl⟩
        rw [hb] at HSUC
        have HB3 := Lib.hid (show b < 256 by omega)
        have HBE := Lib.hid hb
        clear hxs hb hy hj hjk
        go_wp2_with (at_builtin; refine wpList_append_txt rfl (.tmp 42) (.tmp 48) rfl w.heap.size 2 1 1 _ xs [b] (some ⟨wr.heap.size, 0, none⟩) Any rfl rfl (HO.out.alloc _) (byte_rd wr b _ (by have := HBE.out; have := HN.out; omega) HB3.out) (by omega) (Nat.le_trans HB.out.size (by simp)) ?_)
        intro v' W2 hown hgrow hat
        obtain ⟨C', c', rfl⟩ := own_slice_of hown
        have HO3 := Lib.hid hown; have HB4 := Lib.hid (below_own (HB.out.alloc HB.out.size _) (HO.out.alloc _) (Nat.le_refl _) hgrow); clear hown hgrow hat
        go_wp2
        go_roundw
        case rel => exact ⟨3, 3, c', C', 4, by go_num, rfl, by omega, rfl, by omega, Lib.hid (by rw [HSUC.out]; exact HO3.out), HB4⟩
        case measure => simp [intOf]
      · obtain rfl : y = 4 := by omega
        subst hm
        have HSUC : Hid ((be 8 n).take 4 = (be 8 n).take 3 ++ [n / 4294967296 % 256]) := Lib.hid (by rw [be_take_succ 8 n 3 (by omega)])
        obtain ⟨xs, hxs⟩ : ∃ xs, (be 8 n).take 3 = xs := ⟨_, rfl⟩
        rw [hxs] at HSUC HO
        obtain ⟨b, hb⟩ : ∃ b : Nat, n / 4294967296 % 256 = b := ⟨_, rfl⟩
        rw [hb] at HSUC
        have HB3 := Lib.hid (show b < 256 by omega)
        have HBE := Lib.hid hb
        clear hxs hb hy hj hjk
        go_wp2_with (at_builtin; refine wpList_append_txt rfl (.tmp 42) (.tmp 48) rfl w.heap.size 3 1 1 _ xs [b] (some ⟨wr.heap.size, 0, none⟩) Any rfl rfl (HO.out.alloc _) (byte_rd wr b _ (by have := HBE.out; have := HN.out; omega) HB3.out) (by omega) (Nat.le_trans HB.out.size (by simp)) ?_)
        intro v' W2 hown hgrow hat
        obtain ⟨C', c', rfl⟩ := own_slice_of hown
        have HO3 := Lib.hid hown; have HB4 := Lib.hid (below_own (HB.out.alloc HB.out.size _) (HO.out.alloc _) (Nat.le_refl _) hgrow); clear hown hgrow hat
        go_wp2
        go_roundw
        case rel => exact ⟨4, 4, c', C', 3, by go_num, rfl, by omega, rfl, by omega, Lib.hid (by rw [HSUC.out]; exact HO3.out), HB4⟩
        case measure => simp [intOf]
      · obtain rfl : y = 3 := by omega
        subst hm
        have HSUC : Hid ((be 8 n).take 5 = (be 8 n).take 4 ++ [n / 16777216 % 256]) := Lib.hid (by rw [be_take_succ 8 n 4 (by omega)])
        obtain ⟨xs, hxs⟩ : ∃ xs, (be 8 n).take 4 = xs := ⟨_, rfl⟩
        rw [hxs] at HSUC HO
        obtain ⟨b, hb⟩ : ∃ b : Nat, n / 16777216 % 256 = b := ⟨_, rfl⟩
        rw [hb] at HSUC
        have HB3 := Lib.hid (show b < 256 by omega)
        have HBE := Lib.hid hb
        clear hxs hb hy hj hjk
        go_wp2_with (at_builtin; refine wpList_append_txt rfl (.tmp 42) (.tmp 48) rfl w.heap.size 4 1 1 _ xs [b] (some ⟨wr.heap.size, 0, none⟩) Any rfl rfl (HO.out.alloc _) (byte_rd wr b _ (by have := HBE.out; have := HN.out; omega) HB3.out) (by omega) (Nat.le_trans HB.out.size (by simp)) ?_)
        intro v' W2 hown hgrow hat
        obtain ⟨C', c', rfl⟩ := own_slice_of hown
        have HO3 := Lib.hid hown; have HB4 := Lib.hid (below_own (HB.out.alloc HB.out.size _) (HO.out.alloc _) (Nat.le_refl _) hgrow); clear hown hgrow hat
        go_wp2
        go_roundw
        case rel => exact ⟨5, 5, c', C', 2, by go_num, rfl, by omega, rfl, by omega, Lib.hid (by rw [HSUC.out]; exact HO3.out), HB4⟩
        case measure => simp [intOf]
      · obtain rfl : y = 2 := by omega
        subst hm
        have HSUC : Hid ((be 8 n).take 6 = (be 8 n).take 5 ++ [n / 65536 % 256]) := Lib.hid (by rw [be_take_succ 8 n 5 (by omega)])
        obtain ⟨xs, hxs⟩ : ∃ xs, (be 8 n).take 5 = xs := ⟨_, rfl⟩
        rw [hxs] at HSUC HO
        obtain ⟨b, hb⟩ : ∃ b : Nat, n / 65536 % 256 = b := ⟨_, rfl⟩
        rw [hb] at HSUC
        have HB3 := Lib.hid (show b < 256 by omega)
        have HBE := Lib.hid hb
        clear hxs hb hy hj hjk
        go_wp2_with (at_builtin; refine wpList_append_txt rfl (.tmp 42) (.tmp 48) rfl w.heap.size 5 1 1 _ xs [b] (some ⟨wr.heap.size, 0, none⟩) Any rfl rfl (HO.out.alloc _) (byte_rd wr b _ (by have := HBE.out; have := HN.out; omega) HB3.out) (by omega) (Nat.le_trans HB.out.size (by simp)) ?_)
        intro v' W2 hown hgrow hat
        obtain ⟨C', c', rfl⟩ := own_slice_of hown
        have HO3 := Lib.hid hown; have HB4 := Lib.hid (below_own (HB.out.alloc HB.out.size _) (HO.out.alloc _) (Nat.le_refl _) hgrow); clear hown hgrow hat
        go_wp2
        go_roundw
        case rel => exact ⟨6, 6, c', C', 1, by go_num, rfl, by omega, rfl, by omega, Lib.hid (by rw [HSUC.out]; exact HO3.out), HB4⟩
        case measure => simp [intOf]
      · obtain rfl : y = 1 := by omega
        subst hm
        have HSUC : Hid ((be 8 n).take 7 = (be 8 n).take 6 ++ [n / 256 % 256]) := Lib.hid (by rw [be_take_succ 8 n 6 (by omega)])
        obtain ⟨xs, hxs⟩ : ∃ xs, (be 8 n).take 6 = xs := ⟨_, rfl⟩
        rw [hxs] at HSUC HO
        obtain ⟨b, hb⟩ : ∃ b : Nat, n / 256 % 256 = b := ⟨_, rfl⟩
        rw [hb] at HSUC
        have HB3 := Lib.hid (show b < 256 by omega)
        have HBE := Lib.hid hb
        clear hxs hb hy hj hjk
        go_wp2_with (at_builtin; refine wpList_append_txt rfl (.tmp 42) (.tmp 48) rfl w.heap.size 6 1 1 _ xs [b] (some ⟨wr.heap.size, 0, none⟩) Any rfl rfl (HO.out.alloc _) (byte_rd wr b _ (by have := HBE.out; have := HN.out; omega) HB3.out) (by omega) (Nat.le_trans HB.out.size (by simp)) ?_)
        intro v' W2 hown hgrow hat
        obtain ⟨C', c', rfl⟩ := own_slice_of hown
        have HO3 := Lib.hid hown; have HB4 := Lib.hid (below_own (HB.out.alloc HB.out.size _) (HO.out.alloc _) (Nat.le_refl _) hgrow); clear hown hgrow hat
        go_wp2
        go_roundw
        case rel => exact ⟨7, 7, c', C', 0, by go_num, rfl, by omega, rfl, by omega, Lib.hid (by rw [HSUC.out]; exact HO3.out), HB4⟩
        case measure => simp [intOf]
      · obtain rfl : y = 0 := by omega
        subst hm
        have HSUC : Hid ((be 8 n).take 8 = (be 8 n).take 7 ++ [n % 256]) := Lib.hid (by rw [be_take_succ 8 n 7 (by omega)]; simp)
        obtain ⟨xs, hxs⟩ : ∃ xs, (be 8 n).take 7 = xs := ⟨_, rfl⟩
        rw [hxs] at HSUC HO
        obtain ⟨b, hb⟩ : ∃ b : Nat, n % 256 = b := ⟨_, rfl⟩
        rw [hb] at HSUC
        have HB3 := Lib.hid (show b < 256 by omega)
        have HBE := Lib.hid hb
        clear hxs hb hy hj hjk
        go_wp2_with (at_builtin; refine wpList_append_txt rfl (.tmp 42) (.tmp 48) rfl w.heap.size 7 1 1 _ xs [b] (some ⟨wr.heap.size, 0, none⟩) Any rfl rfl (HO.out.alloc _) (byte_rd wr b _ (by have := HBE.out; have := HN.out; omega) HB3.out) (by omega) (Nat.le_trans HB.out.size (by simp)) ?_)
        intro v' W2 hown hgrow hat
        obtain ⟨C', c', rfl⟩ := own_slice_of hown
        have HO3 := Lib.hid hown; have HB4 := Lib.hid (below_own (HB.out.alloc HB.out.size _) (HO.out.alloc _) (Nat.le_refl _) hgrow); clear hown hgrow hat
        go_wp2
        go_roundw
        case rel => exact ⟨8, 8, c', C', -1, by go_num, rfl, by omega, rfl, by omega, Lib.hid (by rw [HSUC.out]; exact HO3.out), HB4⟩
        case measure => simp [intOf]
    · obtain rfl : y = -1 := by omega
      obtain rfl : j = 8 := by omega
      subst hm
      clear hy hj hjk
      have HX := Lib.hid (show (be 8 n).take 8 = r by rw [← hr.out]; exact List.take_of_length_le (by rw [be_len]; omega))
      have HLT := Lib.hid (show ∀ j, gt r j < 256 by rw [← hr.out]; exact be_lt _ _)
      rw [HX.out] at HO
      obtain ⟨C', c', e, hX⟩ := Txt.of_own HO.out HLT.out
      injection e with e1 _ e3
      subst e1 e3
      have HXX := Lib.hid hX; clear hX
      go_wp2
      go_ret
      exact ⟨_, _, _, rfl, HXX.out, HB.out⟩

theorem okS_false {x : Int} (h : ¬ okS x = true) : ¬ x = 1 ∧ ¬ x = 2 ∧ ¬ x = 4 ∧ ¬ x = 8 := by
  simp [okS] at h; omega
set_option maxHeartbeats 2000000 in
set_option maxRecDepth 100000 in
theorem rnumber_any (n x : Int) (w : World) (hn : n < 9223372036854775808) (r : List Nat) (hr : Hid (numB n x = r)) :
    Calls Tryd.prog 29 #[.int .i64 n, .int .i64 x] w (Told r w) := by
  by_cases h1 : okS x = true
  · by_cases h2 : 0 ≤ n
    · obtain ⟨m, rfl⟩ : ∃ m : Nat, n = m := ⟨n.toNat, by omega⟩
      rcases okS_true h1 with rfl | rfl | rfl | rfl
      · by_cases h3 : m < 256
        · exact rnumber_1 m w h3 r (Lib.hid (by rw [← hr.out]; unfold numB; rw [if_pos ⟨by rfl, by omega, by simpa using h3⟩]; rfl))
        · have HR := Lib.hid (show r = [] by rw [← hr.out]; unfold numB; rw [if_neg]; rintro ⟨-, -, h⟩; exact h3 (by simpa using h))
          have y0 : ¬ (m : Int) < 0 := by omega
          obtain ⟨q, hq, hq0⟩ : ∃ q : Int, (m : Int) / 2 ^ 8 = q ∧ ¬ q = 0 := ⟨_, rfl, by rw [show ((2 : Int) ^ 8) = 256 from rfl]; omega⟩
          have hq2 : (m : Int) / 256 = q := hq
          clear h3
          have hn' : Hid (m < 9223372036854775808) := Lib.hid (by omega)
          clear hn
          go_enter Tryd.func29, Tryd.ntmps29
          go_wp2
          go_ret
          rw [HR.out]
          exact Told.none _
      · by_cases h3 : m < 65536
        · exact rnumber_2 m w h3 r (Lib.hid (by rw [← hr.out]; unfold numB; rw [if_pos ⟨by rfl, by omega, by simpa using h3⟩]; rfl))
        · have HR := Lib.hid (show r = [] by rw [← hr.out]; unfold numB; rw [if_neg]; rintro ⟨-, -, h⟩; exact h3 (by simpa using h))
          have y0 : ¬ (m : Int) < 0 := by omega
          obtain ⟨q, hq, hq0⟩ : ∃ q : Int, (m : Int) / 2 ^ 16 = q ∧ ¬ q = 0 := ⟨_, rfl, by rw [show ((2 : Int) ^ 16) = 65536 from rfl]; omega⟩
          have hq2 : (m : Int) / 65536 = q := hq
          clear h3
          have hn' : Hid (m < 9223372036854775808) := Lib.hid (by omega)
          clear hn
          go_enter Tryd.func29, Tryd.ntmps29
          go_wp2
          go_ret
          rw [HR.out]
          exact Told.none _
      · by_cases h3 : m < 4294967296
        · exact rnumber_4 m w h3 r (Lib.hid (by rw [← hr.out]; unfold numB; rw [if_pos ⟨by rfl, by omega, by simpa using h3⟩]; rfl))
        · have HR := Lib.hid (show r = [] by rw [← hr.out]; unfold numB; rw [if_neg]; rintro ⟨-, -, h⟩; exact h3 (by simpa using h))
          have y0 : ¬ (m : Int) < 0 := by omega
          obtain ⟨q, hq, hq0⟩ : ∃ q : Int, (m : Int) / 2 ^ 32 = q ∧ ¬ q = 0 := ⟨_, rfl, by rw [show ((2 : Int) ^ 32) = 4294967296 from rfl]; omega⟩
          have hq2 : (m : Int) / 4294967296 = q := hq
          clear h3
          have hn' : Hid (m < 9223372036854775808) := Lib.hid (by omega)
          clear hn
          go_enter Tryd.func29, Tryd.ntmps29
          go_wp2
          go_ret
          rw [HR.out]
          exact Told.none _
      · exact rnumber_8 m w (by omega) r (Lib.hid (by rw [← hr.out]; unfold numB; rw [if_pos ⟨by rfl, by omega, by simp; omega⟩]; rfl))
    · have HR := Lib.hid (show r = [] by rw [← hr.out]; unfold numB; rw [if_neg]; rintro ⟨-, h, -⟩; exact h2 h)
      have y0 : n < 0 := by omega
      clear h2 hn
      rcases okS_true h1 with rfl | rfl | rfl | rfl
      · go_enter Tryd.func29, Tryd.ntmps29
        go_wp2
        go_ret
        rw [HR.out]
        exact Told.none _
      · go_enter Tryd.func29, Tryd.ntmps29
        go_wp2
        go_ret
        rw [HR.out]
        exact Told.none _
      · go_enter Tryd.func29, Tryd.ntmps29
        go_wp2
        go_ret
        rw [HR.out]
        exact Told.none _
      · go_enter Tryd.func29, Tryd.ntmps29
        go_wp2
        go_ret
        rw [HR.out]
        exact Told.none _
  · have HR := Lib.hid (show r = [] by rw [← hr.out]; unfold numB; rw [if_neg]; rintro ⟨h, -, -⟩; exact h1 h)
    obtain ⟨x1, x2, x4, x8⟩ := okS_false h1
    clear h1 hn
    go_enter Tryd.func29, Tryd.ntmps29
    go_wp2
    go_ret
    rw [HR.out]
    exact Told.none _
end Go.Proofs.YtkplkfokpniflaaDoor.Wr
