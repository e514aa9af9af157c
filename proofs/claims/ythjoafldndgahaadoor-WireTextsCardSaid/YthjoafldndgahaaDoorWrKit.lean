/- Memory and slices of bytes: what lies below, rows of one's own, appends, strings; nothing of any program's functions. -/
import Derived.Test.YthjoafldndgahaaDoorChecked
import Derived.WalkKit
import Derived.IntWalk
import Derived.Deep.OwnRows
import Derived.Deep.Draws
import Derived.Maps.AppendAt
import Derived.Deep.AppendLies
import Derived.Deep.WholeRow
import Derived.Deep.RegionLaw
import Derived.Deep.RegionHeld3
import Derived.Deep.DrawnRows
import Derived.StillTailTactics
import Derived.Laws.OwnMore
import Derived.Laws.AppendOwnNone
import Derived.Laws.BytesArg
import Derived.Laws.CopyOwn
import Derived.Laws.BitsAllLaws
import Derived.Laws.Shifts
import Derived.Lib.SlBytesConst
import Derived.Lib.Hide
import Derived.Lib.SliceRun
import Derived.Lib.AppendZerosOnto
namespace Go.Proofs.YthjoafldndgahaaDoor.Wr
set_option linter.all false
open Go.RowKit

def gt (ws : List Nat) (i : Nat) : Nat := ws.getD i 0
def tab (n : Nat) (g : Nat → Nat) : List Nat := (List.range n).map g
theorem gt_set (ws : List Nat) (i j v : Nat) (h : i < ws.length) : gt (ws.set i v) j = if j = i then v else gt ws j := by
  unfold gt
  rw [List.getD_eq_getElem?_getD, List.getD_eq_getElem?_getD, List.getElem?_set]
  by_cases e : i = j
  · subst e; simp [h]
  · rw [if_neg e, if_neg (fun x => e x.symm)]
theorem gt_tab (n : Nat) (g : Nat → Nat) (i : Nat) (h : i < n) : gt (tab n g) i = g i := by
  unfold gt tab
  rw [List.getD_eq_getElem?_getD, List.getElem?_map, List.getElem?_range h]; rfl
theorem gt_ge (ws : List Nat) (i : Nat) (h : ws.length ≤ i) : gt ws i = 0 := by
  unfold gt
  rw [List.getD_eq_getElem?_getD, List.getElem?_eq_none h]; rfl
theorem tab_len (n : Nat) (g : Nat → Nat) : (tab n g).length = n := by simp [tab]
theorem ext_gt {n : Nat} {a b : List Nat} (ha : a.length = n) (hb : b.length = n) (h : ∀ i, i < n → gt a i = gt b i) : a = b := by
  apply List.ext_getElem (by rw [ha, hb])
  intro i h1 h2
  have := h i (by omega)
  unfold gt at this
  rwa [List.getD_eq_getElem?_getD, List.getD_eq_getElem?_getD, List.getElem?_eq_getElem h1, List.getElem?_eq_getElem h2] at this
theorem gt_mem {l : List Nat} {i : Nat} (h : i < l.length) : gt l i ∈ l := by
  unfold gt
  rw [List.getD_eq_getElem?_getD, List.getElem?_eq_getElem h]; exact List.getElem_mem _
theorem gt_append (a b : List Nat) (j : Nat) : gt (a ++ b) j = if j < a.length then gt a j else gt b (j - a.length) := by
  unfold gt
  rw [List.getD_eq_getElem?_getD, List.getElem?_append]
  split
  · rw [List.getD_eq_getElem?_getD]
  · rw [List.getD_eq_getElem?_getD]
theorem gt_cons_zero (x : Nat) (l : List Nat) : gt (x :: l) 0 = x := rfl
theorem gt_cons_succ (x : Nat) (l : List Nat) (i : Nat) : gt (x :: l) (i + 1) = gt l i := rfl
theorem gt_take (l : List Nat) (k i : Nat) (h : i < k) : gt (l.take k) i = gt l i := by
  unfold gt; rw [List.getD_eq_getElem?_getD, List.getD_eq_getElem?_getD, List.getElem?_take_of_lt h]
def bcells (bs : List Nat) : List Value := bs.map fun x => Value.int .u8 ((x : Nat) : Int)
theorem bcells_len (bs : List Nat) : (bcells bs).length = bs.length := by simp [bcells]
theorem bcells_one (bs : List Nat) : ∀ u ∈ bcells bs, u.oneCell' = true := by
  intro u hu
  obtain ⟨x, _, rfl⟩ := List.mem_map.1 hu
  rfl
theorem bcells_at (bs : List Nat) (i : Nat) (h : i < bs.length) : (bcells bs)[i]? = some (.int .u8 ((gt bs i : Nat) : Int)) := by
  simp [bcells, gt, List.getD_eq_getElem?_getD, h]
theorem rowIs_drewN {w : World} {b : Nat} {t : TypeId} {n : Nat} {f : Nat → Value} (h : w.rowIs b t n f) (k : Nat) : (w.drewN k).rowIs b t n f := h
/-- only block b, and what is new, has turned -/
theorem only_drew {a w : World} {row : Option Nat} (h : a.grownBy w row) : a.grownBy w.drew row := ⟨h.os, h.tape, h.output, h.size, h.block⟩
theorem only_drewN {a w : World} {row : Option Nat} (h : a.grownBy w row) (k : Nat) : a.grownBy (w.drewN k) row := ⟨h.os, h.tape, h.output, h.size, h.block⟩
theorem only_alloc {a w : World} {row : Option Nat} (h : a.grownBy w row) (x : Obj) : a.grownBy (w.alloc x) row :=
  ⟨h.os, h.tape, h.output, Nat.le_trans h.size (by simp), fun i hi hne => (Below.heap_alloc w x i (Nat.lt_of_lt_of_le hi h.size)).trans (h.block i hi hne)⟩
theorem only_set {a w : World} {g : Nat} (h : a.grownBy w (some g)) {p : Addr} (hp : p.block = g ∨ a.heap.size ≤ p.block) (u : Value) : a.grownBy (w.setCell p u) (some g) :=
  ⟨h.os, h.tape, h.output, by simpa [World.setCell] using h.size, fun i hi hne => (Below.heap_setCell w p u i (by
    rintro rfl
    rcases hp with hp | hp
    · exact hne (by rw [hp])
    · omega)).trans (h.block i hi hne)⟩
/-- what follows turns block g' alone, which is new since a, or g -/
theorem only_then {a w c : World} {g g' : Nat} (h : a.grownBy w (some g)) (k : w.grownBy c (some g')) (hg : g' = g ∨ a.heap.size ≤ g') : a.grownBy c (some g) :=
  ⟨k.os.trans h.os, k.tape.trans h.tape, k.output.trans h.output, Nat.le_trans h.size k.size, fun i hi hne =>
    (k.block i (Nat.lt_of_lt_of_le hi h.size) (by
      intro e
      injection e with e
      rcases hg with hg | hg
      · exact hne (by rw [e, hg])
      · omega)).trans (h.block i hi hne)⟩
theorem only_of_below {a w : World} (h : Below a.heap.size a w) (row : Option Nat) : a.grownBy w row := ⟨h.os, h.tape, h.output, h.size, fun i hi _ => h.block i hi⟩
theorem only_below {a w c : World} {g : Nat} (h : a.grownBy w (some g)) (k : Below w.heap.size w c) : a.grownBy c (some g) := only_then h (only_of_below k (some g)) (.inl rfl)
theorem below_of_only {w w1 w2 : World} {g : Nat} (h : Below w.heap.size w w1) (k : w1.grownBy w2 (some g)) (hg : w.heap.size ≤ g) : Below w.heap.size w w2 :=
  ⟨k.os.trans h.os, k.tape.trans h.tape, k.output.trans h.output, Nat.le_trans h.size k.size, fun i hi => (k.block i (Nat.lt_of_lt_of_le hi h.size) (by intro e; injection e; omega)).trans (h.block i hi)⟩
/-- words in a block -/
def wordRow (k : IntKind) (ws : List Nat) : Nat → Value := fun i => .int k ((gt ws i : Nat) : Int)
theorem row_set {w : World} {g n : Nat} {t : TypeId} {k : IntKind} {ws : List Nat} (h : w.rowIs g t n (wordRow k ws)) (hl : ws.length = n) (i v : Nat) (hi : i < n) :
    (w.setCell ⟨g, i, none⟩ (.int k ((v : Nat) : Int))).rowIs g t n (wordRow k (ws.set i v)) := by
  refine (h.set i _).congr fun j _ => ?_
  unfold wordRow
  rw [gt_set _ _ _ _ (by omega)]
  split <;> rfl
theorem row_setZ {w : World} {g n : Nat} {t : TypeId} {k : IntKind} {ws : List Nat} (h : w.rowIs g t n (wordRow k ws)) (hl : ws.length = n) (i v : Nat) (hi : i < n) {j : Nat} (hj : j = i) {z : Int} (hz : z = (v : Int)) :
    (w.setCell ⟨g, j, none⟩ (.int k z)).rowIs g t n (wordRow k (ws.set i v)) := by
  subst hj hz; exact row_set h hl _ v hi
/-- a slice of bytes that lies below block B, nil let in -/
def Rd (w : World) (B : Nat) (A : Option Addr) (bs : List Nat) : Prop :=
  (∀ j, gt bs j < 256) ∧ (0 < bs.length → ∃ ad : Addr, A = some ad ∧ ad.block < B ∧ ∀ j, j < bs.length → w.cell? (ad.add j) = some (.int .u8 (gt bs j : Nat)))
theorem Rd.keep {w w' : World} {B : Nat} {A : Option Addr} {bs : List Nat} (h : Rd w B A bs) (e : ∀ p : Addr, p.block < B → w'.cell? p = w.cell? p) : Rd w' B A bs := by
  refine ⟨h.1, fun hn => ?_⟩
  obtain ⟨ad, h1, h2, h3⟩ := h.2 hn
  refine ⟨ad, h1, h2, fun j hj => ?_⟩
  rw [e _ (by unfold Addr.add; split <;> exact h2)]
  exact h3 j hj
theorem Rd.grown {w w' : World} {B g : Nat} {A : Option Addr} {bs : List Nat} (h : Rd w B A bs) (hg : w.grownBy w' (some g)) (hB : B ≤ g) (hw : B ≤ w.heap.size) : Rd w' B A bs :=
  h.keep fun p hp => World.cell?_of_block (hg.block p.block (by omega) (by intro e; injection e; omega))
theorem Rd.below {w w' : World} {B : Nat} {A : Option Addr} {bs : List Nat} (h : Rd w B A bs) (hg : Below B w w') : Rd w' B A bs := h.keep fun _ hp => hg.cell hp
theorem Rd.more {w : World} {B B' : Nat} {A : Option Addr} {bs : List Nat} (h : Rd w B A bs) (hB : B ≤ B') : Rd w B' A bs := by
  refine ⟨h.1, fun hn => ?_⟩
  obtain ⟨ad, h1, h2, h3⟩ := h.2 hn
  exact ⟨ad, h1, by omega, h3⟩
theorem Rd.nil (w : World) (B : Nat) (A : Option Addr) : Rd w B A [] := ⟨fun _ => by simp [gt], fun h => absurd h (by simp)⟩
def byteRow (bs : List Nat) : Nat → Value := wordRow .u8 bs
theorem bcells_append (a b : List Nat) : bcells (a ++ b) = bcells a ++ bcells b := by simp [bcells]
/-- bytes as a string -/
def txt (bs : List Nat) : ByteArray := strOfNums (bs.map fun x => ((x : Nat) : Int))
theorem own_of_row {w : World} {h n base : Nat} {bs : List Nat} (hrow : w.rowIs h 5 n (byteRow bs)) (hn : bs.length = n) (hm : n ≤ maxLen) (hb : base ≤ h) :
    w.ownsRow base 5 1 (.slice (some ⟨h, 0, none⟩) n n) n (bcells bs) := by
  obtain ⟨c, hc, hs, hi⟩ := hrow
  refine ⟨by rw [bcells_len]; omega, .inr ⟨h, n, c, rfl, hb, hc, Nat.le_refl _, hm, by omega, ?_⟩⟩
  apply List.ext_getElem?
  intro i
  by_cases hin : i < n
  · rw [bcells_at bs i (by omega), List.getElem?_take_of_lt (by omega), Array.getElem?_toList, hi i hin]; rfl
  · rw [List.getElem?_eq_none (by simp; omega), List.getElem?_eq_none (by rw [bcells_len]; omega)]
/-- a region that is shown not to panic -/
theorem region_calm {P : Program} {id : Nat} {ops : Array Oper} {b : Bool} {Q : Exit → Act → World → Prop} {a : Act} {w : World}
    (h : (Code.region id ops b).wp P (fun e a w => match e with | .panic _ => False | e => Q e a w) a w) : (Code.region id ops b).wp P Q a w :=
  Code.wp_mono (fun e a w h => by cases e <;> first | exact h | exact (h : False).elim) h
theorem byteInfo : ∃ i : TypeInfo, Tryd.prog.info? 5 = some i ∧ i.zero = some (.int .u8 0) ∧ i.size = 1 ∧ i.bytes = 1 := by
  have h : (Tryd.prog.info? 5).map (fun i => (i.zero, i.size, i.bytes)) = some (some (.int .u8 0), 1, 1) := by kernel_rfl
  obtain ⟨i, hi, e⟩ := Option.map_eq_some_iff.1 h
  simp only [Prod.mk.injEq] at e
  exact ⟨i, hi, e.1, e.2.1, e.2.2⟩
theorem news_of_rd {w : World} {B : Nat} {ad : Addr} {ys : List Nat} (h : Rd w B (some ad) ys) : ∀ j u, (bcells ys)[j]? = some u → w.cell? (ad.add j) = some u := by
  intro j u hu
  have hj : j < ys.length := by
    rcases Nat.lt_or_ge j ys.length with h | h
    · exact h
    · rw [List.getElem?_eq_none (by rw [bcells_len]; omega)] at hu; cases hu
  obtain ⟨ad', e, _, hc⟩ := h.2 (by omega)
  injection e with e
  subst e
  rw [bcells_at ys j hj] at hu
  rw [hc j hj, ← hu]
theorem rd_of_own {w : World} {base g n cap B : Nat} {xs : List Nat} (hown : w.ownsRow base 5 1 (.slice (some ⟨g, 0, none⟩) n cap) n (bcells xs)) (hx : ∀ j, gt xs j < 256) (hB : w.heap.size ≤ B) : Rd w B (some ⟨g, 0, none⟩) xs := by
  have hl : xs.length = n := by have := hown.1; rw [bcells_len] at this; omega
  have hlt : g < w.heap.size := (hown.lt g rfl).2
  refine ⟨hx, fun _ => ⟨_, rfl, by show g < B; omega, fun j hj => ?_⟩⟩
  have ha : (⟨g, 0, none⟩ : Addr).add j = ⟨g, j, none⟩ := by unfold Addr.add; split <;> simp_all
  rw [ha, hown.cellAt j (by omega), bcells_at xs j hj]
theorem gt_append_lt {a b : List Nat} (ha : ∀ j, gt a j < 256) (hb : ∀ j, gt b j < 256) : ∀ j, gt (a ++ b) j < 256 := by
  intro j
  have h1 := ha j; have h2 := hb (j - a.length)
  unfold gt at *
  rw [List.getD_eq_getElem?_getD, List.getElem?_append]
  split
  · rwa [List.getD_eq_getElem?_getD] at h1
  · rwa [List.getD_eq_getElem?_getD] at h2
theorem gt_lt_of_mem {a : List Nat} (h : ∀ x ∈ a, x < 256) : ∀ j, gt a j < 256 := by
  intro j
  unfold gt
  rw [List.getD_eq_getElem?_getD]
  by_cases hj : j < a.length
  · rw [List.getElem?_eq_getElem hj]; exact h _ (List.getElem_mem _)
  · rw [List.getElem?_eq_none (by omega)]; decide
theorem rd_of_rowIs {w : World} {h n B : Nat} {bs : List Nat} (hrow : w.rowIs h 5 n (byteRow bs)) (hn : bs.length = n) (hx : ∀ j, gt bs j < 256) (hB : w.heap.size ≤ B) : Rd w B (some ⟨h, 0, none⟩) bs := by
  have hlt := hrow.lt
  refine ⟨hx, fun _ => ⟨_, rfl, by show h < B; omega, fun j hj => ?_⟩⟩
  have ha : (⟨h, 0, none⟩ : Addr).add j = ⟨h, j, none⟩ := by unfold Addr.add; split <;> simp_all
  rw [ha, hrow.cell (by omega)]; rfl
theorem own_cap {w : World} {base h n cap : Nat} {xs : List Value} (h1 : w.ownsRow base 5 1 (.slice (some ⟨h, 0, none⟩) n cap) n xs) : n ≤ cap ∧ cap ≤ maxLen := by
  rcases h1.2 with ⟨e, _⟩ | ⟨g, c, cur, e, _, _, h2, h3, _⟩
  · cases e
  · injection e with _ _ e3
    subst e3
    exact ⟨h2, h3⟩
theorem wpAnyH_more {P : Program} {md : Region.Mode} {ops : Array Oper} {Q : Exit → Act → World → Prop} {S S' : World → Prop} (h : ∀ w, S' w → S w) : ∀ (fuel : Nat) (listed : Array Bool) (a : Act) (w : World), wpAnyH P md ops Q S' fuel listed a w → wpAnyH P md ops Q S fuel listed a w
  | 0, _, _, _, h' => h'
  | fuel + 1, _, _, _, h' => ⟨h'.1, fun i hi => wpOp_mono (fun a' w' k => ⟨h _ k.1, wpAnyH_more h fuel _ a' w' k.2⟩) (h'.2 i hi)⟩
theorem own_below {w w' : World} {base B g n cap : Nat} {xs : List Value} (h : w.ownsRow base 5 1 (.slice (some ⟨g, 0, none⟩) n cap) n xs) (hb : Below B w w') (hB : w.heap.size ≤ B) : w'.ownsRow base 5 1 (.slice (some ⟨g, 0, none⟩) n cap) n xs :=
  h.kept ⟨hb.os, hb.tape, hb.output, hb.size, fun i hi _ => hb.block i (by omega)⟩ (.inr (by simp [Value.ownBlock] : Value.ownBlock _ ≠ none))
def Bytes (w : World) (g n : Nat) : Prop := ∃ cur : Array Value, w.heap[g]? = some (.cells cur 5 (0, 0)) ∧ ∀ i, i < n → ∃ z : Int, cur[i]? = some (.int .u8 z)
theorem Bytes.cell {w : World} {g n : Nat} (h : Bytes w g n) (i : Nat) (hi : i < n) : ∃ z : Int, w.cell? ⟨g, i, none⟩ = some (.int .u8 z) := by
  obtain ⟨cur, h1, h2⟩ := h
  obtain ⟨z, hz⟩ := h2 i hi
  exact ⟨z, by rw [cell_of_row w g i cur 5 (0, 0) h1, hz]⟩
theorem Bytes.frozen {w : World} {g n : Nat} (h : Bytes w g n) (i : Nat) : w.frozen? ⟨g, i, none⟩ = false := by
  obtain ⟨cur, h1, _⟩ := h
  simp [World.frozen?, h1]
theorem Bytes.set {w : World} {g n : Nat} (h : Bytes w g n) (i : Nat) (z : Int) : Bytes (w.setCell ⟨g, i, none⟩ (.int .u8 z)) g n := by
  obtain ⟨cur, h1, h2⟩ := h
  refine ⟨cur.setIfInBounds i (.int .u8 z), ?_, fun j hj => ?_⟩
  · rw [setCell_eq_setRow w g i cur 5 (0, 0) (.int .u8 z) h1]
    exact setRow_heap w g _ _ 5 _ h1
  · obtain ⟨y, hy⟩ := h2 j hj
    rw [Array.getElem?_setIfInBounds]
    by_cases e : i = j
    · subst e
      have : i < cur.size := by
        rcases Nat.lt_or_ge i cur.size with h | h
        · exact h
        · rw [Array.getElem?_eq_none h] at hy; cases hy
      exact ⟨z, by simp [this]⟩
    · exact ⟨y, by rw [if_neg e]; exact hy⟩
theorem Bytes.drew {w : World} {g n : Nat} (h : Bytes w g n) : Bytes w.drew g n := h
theorem bytes_of_own {w : World} {base g n cap : Nat} {xs : List Nat} (h : w.ownsRow base 5 1 (.slice (some ⟨g, 0, none⟩) n cap) n (bcells xs)) : Bytes w g n := by
  have hl : xs.length = n := by have := h.1; rw [bcells_len] at this; omega
  rcases h.2 with ⟨e, _⟩ | ⟨g', c, cur, e, _, hc, _, _, hs, ht⟩
  · cases e
  · injection e with e1 _ _
    have e2 : (⟨g, 0, none⟩ : Addr) = ⟨g', 0, none⟩ := Option.some.inj e1
    injection e2 with e3
    subst e3
    refine ⟨cur, hc, fun i hi => ⟨(gt xs i : Nat), ?_⟩⟩
    have h5 := bcells_at xs i (by omega)
    rw [← ht, Nat.mul_one, List.getElem?_take_of_lt hi, Array.getElem?_toList] at h5
    exact h5
theorem own_slice {w : World} {base n : Nat} {v : Value} {xs : List Nat} (h : w.ownsRow base 5 1 v n (bcells xs)) (hx : ∀ j, gt xs j < 256) :
    ∃ (A : Option Addr) (c : Nat), v = .slice A n c ∧ (A = none → c = 0) ∧ n ≤ c ∧ c ≤ 9223372036854775807 ∧ Rd w w.heap.size A xs ∧ xs.length = n ∧ (∀ g, Value.ownBlock v = some g → base ≤ g ∧ g < w.heap.size) := by
  have hl : xs.length = n := by have := h.1; rw [bcells_len] at this; omega
  have h' := h
  rcases h.2 with ⟨e, h0⟩ | ⟨g, c, cur, e, hb, hc, h1, h2, _⟩
  · subst e h0
    have hx0 : xs = [] := List.eq_nil_of_length_eq_zero hl
    subst hx0
    exact ⟨none, 0, rfl, fun _ => rfl, by omega, by omega, Rd.nil _ _ _, rfl, fun g e => by cases e⟩
  · subst e
    refine ⟨some ⟨g, 0, none⟩, c, rfl, fun e => (by cases e), h1, h2, rd_of_own h' hx (Nat.le_refl _), hl, fun g' e => ?_⟩
    have e' : g = g' := Option.some.inj e
    subst e'
    exact h'.lt g rfl
theorem nil_own (w : World) {base : Nat} (h : base ≤ w.heap.size) : (w.alloc (.cells #[] 5)).ownsRow base 5 1 (.slice (some ⟨w.heap.size, 0, none⟩) 0 0) 0 (bcells []) := World.ownsRow_made w #[] 0 h (by unfold maxLen; omega) rfl
theorem foldl_push (ns : List Int) : ∀ r : ByteArray, ns.foldl (fun r n => r.push (UInt8.ofNat n.toNat)) r = ⟨r.data ++ (ns.map fun n => UInt8.ofNat n.toNat).toArray⟩ := by
  induction ns with
  | nil => intro r; simp
  | cons n ns ih => intro r; rw [List.foldl_cons, ih]; simp [ByteArray.push]
theorem conv_rd {w : World} {B : Nat} {A : Option Addr} {bs : List Nat} {n c : Nat} (hR : Rd w B A bs) (hn : bs.length = n) :
    (convert 22 9 (.slice A n c)).run Tryd.prog w = .ok (.string (txt bs)) w := by
  rw [run_convert_bytes_string w 22 9 5 A n c Tryd.underlying22 Tryd.underlying5 Tryd.underlying9]
  cases A with
  | none =>
    have h0 : n = 0 := by
      rcases Nat.eq_zero_or_pos n with h | h
      · exact h
      · obtain ⟨ad, e, _⟩ := hR.2 (by omega)
        cases e
    subst h0
    obtain rfl : bs = [] := List.eq_nil_of_length_eq_zero hn
    simp [Conv.bytesToString]
    rfl
  | some ad =>
    have hl : (loadCells ad n).run Tryd.prog w = .ok ((bs.map fun x => ((x : Nat) : Int)).map (Value.int .u8)).toArray w := by
      have := run_loadCells_list (P := Tryd.prog) w ad (bcells bs) (fun j v hv => news_of_rd hR j v hv)
      rw [bcells_len, hn] at this
      rw [this, List.map_map]; rfl
    rw [run_bytesToString w ad n c _ hl, foldl_push]
    simp [txt, strOfNums]
theorem own_down {w : World} {base base' n : Nat} {v : Value} {xs : List Value} (h : w.ownsRow base 5 1 v n xs) (hb : base' ≤ base) : w.ownsRow base' 5 1 v n xs := by
  refine ⟨h.1, ?_⟩
  rcases h.2 with h2 | ⟨g, c, cur, he, hbase, rest⟩
  · exact .inl h2
  · exact .inr ⟨g, c, cur, he, by omega, rest⟩
theorem Bytes.grown {w w' : World} {g g' n : Nat} (h : Bytes w g n) (hg : w.grownBy w' (some g')) (hne : g ≠ g') : Bytes w' g n := by
  obtain ⟨cur, h1, h2⟩ := h
  have hlt : g < w.heap.size := (Array.getElem?_eq_some_iff.1 h1).1
  exact ⟨cur, (hg.block g hlt (by intro e; injection e; omega)).trans h1, h2⟩
/-- append, of any length that may be -/
theorem run_append_big {w : World} (base g n cap m c B : Nat) (ty : TypeId) (xs ys : List Nat) (A : Option Addr)
    (hown : w.ownsRow base 5 1 (.slice (some ⟨g, 0, none⟩) n cap) n (bcells xs)) (hR : Rd w B A ys) (hm : ys.length = m) (hc : A = none → c = 0) (hbd : n + m ≤ 140737488355328) (hbase : base ≤ w.heap.size) :
    ∃ g' cap' w', (Builtin.append_ #[22, 22] ty #[.slice (some ⟨g, 0, none⟩) n cap, .slice A m c]).run Tryd.prog w = .ok (.slice (some ⟨g', 0, none⟩) (n + m) cap') w' ∧
      w'.ownsRow base 5 1 (.slice (some ⟨g', 0, none⟩) (n + m) cap') (n + m) (bcells (xs ++ ys)) ∧ w.grownBy w' (some g) ∧ (g' = g ∨ g' = w.heap.size) := by
  obtain ⟨i, hi, hz, hsz, hby⟩ := byteInfo
  cases A with
  | none =>
    have h0 : m = 0 := by
      rcases Nat.eq_zero_or_pos m with h | h
      · exact h
      · obtain ⟨ad, e, _⟩ := hR.2 (by omega)
        cases e
    have hy : ys = [] := List.eq_nil_of_length_eq_zero (by omega)
    have hc0 := hc rfl
    subst h0 hy hc0
    exact ⟨g, cap, w, run_append_owned_none (P := Tryd.prog) (w := w) base 22 ty 5 i 1 Tryd.underlying22 hi _ n (bcells xs) hown, by simpa using hown, World.grownBy.refl _ _, .inl rfl⟩
  | some ad =>
    obtain ⟨v', w', hrun, h1, h2, h3, h4⟩ := run_append_own_at (P := Tryd.prog) w base 22 ty 5 i (.int .u8 0) 1 1 Tryd.underlying22 hi hz hsz hby rfl (by omega) _ n (bcells xs) hown ad m c (bcells ys) (by rw [bcells_len]; omega)
      (news_of_rd hR) (bcells_one ys) (by unfold maxLen; omega) (by omega) hbase
    rw [← bcells_append] at h1
    have hne : v' ≠ .slice none 0 0 := fun e => by have := (h3.1 e).1; cases this
    rcases h1.2 with ⟨e, _⟩ | ⟨g', cap', cur, e, _⟩
    · exact absurd e hne
    · subst e
      refine ⟨g', cap', w', hrun, h1, h2, ?_⟩
      rcases h4 with h4 | h4
      · exact .inl (Option.some.inj h4)
      · exact .inr (Option.some.inj h4)
theorem wpList_append_big {ops : Array Oper} {rest : List Oper} {o : Oper} {a : Act} {w : World} {Q : Exit → Act → World → Prop} (hw : Region.wanted o (yielded ops a.tmps) = true) (s x : Operand)
    (ho : o.op = .call { callee := .builtin .append, args := #[s, x], argTypes := #[22, 22] }) (base g n cap m c B : Nat) (xs ys : List Nat) (A : Option Addr)
    (hs : a.eval s = .slice (some ⟨g, 0, none⟩) n cap) (hx : a.eval x = .slice A m c)
    (hown : w.ownsRow base 5 1 (.slice (some ⟨g, 0, none⟩) n cap) n (bcells xs)) (hR : Rd w B A ys) (hm : ys.length = m) (hc : A = none → c = 0) (hbd : n + m ≤ 140737488355328) (hbase : base ≤ w.heap.size)
    (k : ∀ g' cap' w', w'.ownsRow base 5 1 (.slice (some ⟨g', 0, none⟩) (n + m) cap') (n + m) (bcells (xs ++ ys)) → w.grownBy w' (some g) → (g' = g ∨ g' = w.heap.size) → wpList Tryd.prog ops Q rest (a.put o.dst (.slice (some ⟨g', 0, none⟩) (n + m) cap')) w') :
    wpList Tryd.prog ops Q (o :: rest) a w := by
  obtain ⟨g', cap', w', hrun, h1, h2, h3⟩ := run_append_big base g n cap m c B o.type xs ys A hown hR hm hc hbd hbase
  unfold wpList
  rw [if_pos hw]
  refine .inl ?_
  unfold Oper.wp execOp
  simp only [ho, resolve, invoke, builtin, Sem.run_bind, Sem.run_pure, Result.andThen_ok, List.map_toArray, List.map_cons, List.map_nil, hs, hx, hrun]
  exact k g' cap' w' h1 h2 h3
/-- one byte of a row of one's own is another one -/
theorem own_set {w : World} {base g n cap : Nat} {xs : List Nat} (h : w.ownsRow base 5 1 (.slice (some ⟨g, 0, none⟩) n cap) n (bcells xs)) (k v : Nat) (hk : k < n) {z : Int} (hz : z = (v : Int)) :
    (w.setCell ⟨g, k, none⟩ (.int .u8 z)).ownsRow base 5 1 (.slice (some ⟨g, 0, none⟩) n cap) n (bcells (xs.set k v)) := by
  subst hz
  have hl : xs.length = n := by have := h.1; rw [bcells_len] at this; omega
  refine ⟨by rw [bcells_len, List.length_set]; omega, .inr ?_⟩
  rcases h.2 with ⟨e, _⟩ | ⟨g', c, cur, e, hb, hc, h1, h2, hs, ht⟩
  · cases e
  · injection e with e1 _ e3
    have e2 : (⟨g, 0, none⟩ : Addr) = ⟨g', 0, none⟩ := Option.some.inj e1
    injection e2 with e4
    subst e4 e3
    refine ⟨g, cap, cur.setIfInBounds k (.int .u8 (v : Int)), rfl, hb, ?_, h1, h2, by rw [Array.size_setIfInBounds]; exact hs, ?_⟩
    · rw [setCell_eq_setRow w g k cur 5 (0, 0) (.int .u8 (v : Int)) hc]
      exact setRow_heap w g _ _ 5 _ hc
    · rw [Array.toList_setIfInBounds, List.take_set, ht]
      unfold bcells
      rw [List.map_set]
theorem own_frozen {w : World} {base g n cap : Nat} {xs : List Value} (h : w.ownsRow base 5 1 (.slice (some ⟨g, 0, none⟩) n cap) n xs) (i : Nat) : w.frozen? ⟨g, i, none⟩ = false := by
  rcases h.2 with ⟨e, _⟩ | ⟨g', c, cur, e, hb, hc, _⟩
  · cases e
  · injection e with e1 _ _
    have e2 : (⟨g, 0, none⟩ : Addr) = ⟨g', 0, none⟩ := Option.some.inj e1
    injection e2 with e4
    subst e4
    simp [World.frozen?, hc]
theorem Rd.drewN {w : World} {B : Nat} {A : Option Addr} {bs : List Nat} (h : Rd w B A bs) (m : Nat) : Rd (w.drewN m) B A bs := h.keep fun _ _ => rfl
theorem Below.drewN' {n : Nat} {w v : World} (h : Below n w v) (m : Nat) : Below n w (v.drewN m) := ⟨h.os, h.tape, h.output, h.size, h.block⟩
theorem loop_eq (s : ByteArray) : ∀ (n i : Nat) (r : List UInt8), s.size - i = n → ByteArray.toList.loop s i r = r.reverse ++ s.data.toList.drop i := by
  intro n
  induction n with
  | zero =>
    intro i r h
    unfold ByteArray.toList.loop
    rw [if_neg (by omega)]
    have : s.data.toList.drop i = [] := List.drop_eq_nil_of_le (by rw [Array.length_toList]; show s.size ≤ i; omega)
    rw [this, List.append_nil]
  | succ n ih =>
    intro i r h
    unfold ByteArray.toList.loop
    have hi : i < s.size := by omega
    rw [if_pos hi, ih (i + 1) _ (by omega)]
    have hi' : i < s.data.toList.length := by rw [Array.length_toList]; exact hi
    rw [List.drop_eq_getElem_cons hi', List.reverse_cons, List.append_assoc]
    congr 2
    simp [ByteArray.get!, hi]
theorem str_tl {a b : ByteArray} (h : ¬ a = b) : ¬ a.toList = b.toList := by
  have e : ∀ s : ByteArray, s.toList = s.data.toList := fun s => by unfold ByteArray.toList; rw [loop_eq s s.size 0 [] rfl]; rfl
  rw [e, e]
  intro h'
  apply h
  cases a with
  | mk a =>
    cases b with
    | mk b => exact congrArg ByteArray.mk (Array.toList_inj.1 h')

theorem strB_inj {bs : List Nat} (h : ∀ j, gt bs j < 256) : ((txt bs).data.toList.map UInt8.toNat) = bs := by
  unfold txt strOfNums
  dsimp only
  rw [List.map_map, List.map_map]
  conv => rhs; rw [← List.map_id bs]
  apply List.map_congr_left
  intro x hx
  have hx' : x < 256 := by
    obtain ⟨i, hi, e⟩ := List.getElem_of_mem hx
    have := h i
    unfold gt at this
    rw [List.getD_eq_getElem?_getD, List.getElem?_eq_getElem hi] at this
    rw [← e]; exact this
  show (UInt8.ofNat ((x : Nat) : Int).toNat).toNat = x
  rw [Int.toNat_natCast, UInt8.toNat_ofNat']
  omega
theorem txt_inj {a b : List Nat} (ha : ∀ j, gt a j < 256) (hb : ∀ j, gt b j < 256) : txt a = txt b ↔ a = b :=
  ⟨fun h => by rw [← strB_inj ha, ← strB_inj hb, h], fun h => by rw [h]⟩
theorem txt_beq {a b : List Nat} (ha : ∀ j, gt a j < 256) (hb : ∀ j, gt b j < 256) : ((txt a).toList == (txt b).toList) = decide (a = b) := by
  by_cases e : a = b
  · rw [decide_eq_true e, beq_iff_eq, e]
  · rw [decide_eq_false e, beq_eq_false_iff_ne]; exact str_tl fun e' => e ((txt_inj ha hb).1 e')
end Go.Proofs.YthjoafldndgahaaDoor.Wr
