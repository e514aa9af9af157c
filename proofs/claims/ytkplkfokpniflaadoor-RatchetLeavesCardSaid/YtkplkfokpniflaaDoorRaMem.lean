/- Kept keys and ratchets that lie in memory; rows of kept keys of one's own. -/
import Derived.Test.YtkplkfokpniflaaDoorRaPlain
import Derived.Deep.MidRow
import Derived.Laws.MakeOwn
namespace Go.Proofs.YtkplkfokpniflaaDoor.Ra
set_option linter.all false
open Go.RowKit
open Wr (Txt Any New bcells gt)

/-- how a kept key lies -/
structure KdQ where
  g : Int
  A : Option Addr
  n : Nat
  c : Nat
abbrev KdQ.cs (q : KdQ) : Array Value := #[.int .i64 q.g, .slice q.A q.n q.c]
def zQ : KdQ := ⟨0, none, 0, 0⟩
/-- what is had lies in blocks of which S is true -/
def Inn (S : Nat → Prop) (A : Option Addr) (n : Nat) : Prop := 0 < n → ∀ ad, A = some ad → S ad.block
theorem Inn.mono {S S' : Nat → Prop} {A : Option Addr} {n : Nat} (h : Inn S A n) (hS : ∀ b, S b → S' b) : Inn S' A n := fun hn ad e => hS _ (h hn ad e)
theorem Inn.any (A : Option Addr) (n : Nat) : Inn Any A n := fun _ _ _ => trivial
theorem Inn.and {S S' : Nat → Prop} {A : Option Addr} {n : Nat} (h : Inn S A n) (h' : Inn S' A n) : Inn (fun b => S b ∧ S' b) A n := fun hn ad e => ⟨h hn ad e, h' hn ad e⟩
theorem txt_in {T : Nat → Prop} {w : World} {A : Option Addr} {n c : Nat} {bs : List Nat} (h : Txt T w A n c bs) : Inn (fun b => b < w.heap.size) A n := fun hn ad e => by
  obtain ⟨ad', e', hlt, _⟩ := h.1.2 (by rw [h.len]; exact hn)
  rw [e] at e'; injection e' with e'; subst e'; exact hlt
theorem txt_inn {T : Nat → Prop} {w : World} {A : Option Addr} {n c : Nat} {bs : List Nat} (h : Txt T w A n c bs) : Inn T A n := fun _ ad e => h.2.2.2.2.2 ad e
theorem txt_keep {S : Nat → Prop} {w w' : World} {A : Option Addr} {n c : Nat} {bs : List Nat} (h : Txt Any w A n c bs) (hf : Inn S A n) (hs : w.heap.size ≤ w'.heap.size) (hc : ∀ b, S b → b < w.heap.size → w'.heap[b]? = w.heap[b]?) : Txt Any w' A n c bs := by
  by_cases hn : 0 < n
  · have h' : Txt S w A n c bs := ⟨h.1, h.2.1, h.2.2.1, h.2.2.2.1, h.2.2.2.2.1, hf hn⟩
    exact (h'.kept hs hc).any
  · obtain rfl : n = 0 := by omega
    obtain rfl : bs = [] := List.eq_nil_of_length_eq_zero h.len
    exact ⟨⟨fun j => by simp [Wr.gt], fun h => absurd h (by simp)⟩, h.2⟩
/-- what it is -/
structure KdIs (S : Nat → Prop) (w : World) (q : KdQ) (k : Kd) : Prop where
  g : q.g = k.g
  key : Txt Any w q.A q.n q.c k.key
  inn : Inn S q.A q.n
theorem KdIs.kept {S : Nat → Prop} {w w' : World} {q : KdQ} {k : Kd} (h : KdIs S w q k) (hs : w.heap.size ≤ w'.heap.size) (hc : ∀ b, S b → b < w.heap.size → w'.heap[b]? = w.heap[b]?) : KdIs S w' q k := ⟨h.g, txt_keep h.key h.inn hs hc, h.inn⟩
theorem KdIs.below {S : Nat → Prop} {w w' : World} {q : KdQ} {k : Kd} (h : KdIs S w q k) (hb : Below w.heap.size w w') : KdIs S w' q k := ⟨h.g, h.key.below hb, h.inn⟩
theorem KdIs.mono {S S' : Nat → Prop} {w : World} {q : KdQ} {k : Kd} (h : KdIs S w q k) (hS : ∀ b, b < w.heap.size → S b → S' b) : KdIs S' w q k := ⟨h.g, h.key, (h.inn.and (txt_in h.key)).mono fun b hb => hS b hb.2 hb.1⟩
theorem KdIs.zero (S : Nat → Prop) (w : World) : KdIs S w zQ zK := ⟨rfl, Txt.nil _ _, fun h => absurd h (by decide)⟩
/-- .. at an address -/
def KdAt (w : World) (ad : Addr) (q : KdQ) : Prop := ∀ i, i < 2 → w.cell? (ad.add i) = q.cs[i]?
theorem KdAt.cells {w : World} {ad : Addr} {q : KdQ} (h : KdAt w ad q) : w.cell? ad = some (.int .i64 q.g) ∧ w.cell? ⟨ad.block, ad.off + 1, none⟩ = some (.slice q.A q.n q.c) := ⟨h 0 (by decide), h 1 (by decide)⟩
theorem KdAt.of_block {w w' : World} {ad : Addr} {q : KdQ} (h : KdAt w ad q) (e : w'.heap[ad.block]? = w.heap[ad.block]?) : KdAt w' ad q := by
  intro i hi
  rw [World.cell?_of_block (w' := w') (w := w) (by rw [Wr.add_block]; exact e)]
  exact h i hi
theorem KdAt.same {w : World} {ad : Addr} {q q' : KdQ} (h : KdAt w ad q) (h' : KdAt w ad q') : q = q' := by
  obtain ⟨a1, a2⟩ := h.cells
  obtain ⟨b1, b2⟩ := h'.cells
  rw [a1] at b1; rw [a2] at b2
  injection b1 with b1; injection b2 with b2
  injection b1 with _ b1; injection b2 with c1 c2 c3
  cases q; cases q'; simp_all
/-- a slice of kept keys -/
def Kds (S : Nat → Prop) (w : World) (A : Option Addr) (n c : Nat) (ks : List Kd) : Prop :=
  ks.length = n ∧ n ≤ c ∧ c ≤ 9223372036854775807 ∧ (A = none → c = 0) ∧ (∀ ad, A = some ad → 0 < n → ad.block < w.heap.size ∧ S ad.block) ∧
  ∀ ad, A = some ad → ∀ j, j < n → ∃ q, KdAt w (ad.add (j * 2)) q ∧ KdIs S w q (kd ks j)
theorem Kds.nil (S : Nat → Prop) (w : World) : Kds S w none 0 0 [] := ⟨rfl, Nat.le_refl _, by omega, fun _ => rfl, fun _ e => (by cases e), fun _ e => (by cases e)⟩
theorem Kds.len {S : Nat → Prop} {w : World} {A : Option Addr} {n c : Nat} {ks : List Kd} (h : Kds S w A n c ks) : ks.length = n := h.1
theorem Kds.kept {S : Nat → Prop} {w w' : World} {A : Option Addr} {n c : Nat} {ks : List Kd} (h : Kds S w A n c ks) (hs : w.heap.size ≤ w'.heap.size) (hc : ∀ b, S b → b < w.heap.size → w'.heap[b]? = w.heap[b]?) : Kds S w' A n c ks := by
  obtain ⟨h1, h2, h3, h4, h5, h6⟩ := h
  refine ⟨h1, h2, h3, h4, fun ad e hn => ⟨Nat.lt_of_lt_of_le (h5 ad e hn).1 hs, (h5 ad e hn).2⟩, fun ad e j hj => ?_⟩
  obtain ⟨q, q1, q2⟩ := h6 ad e j hj
  exact ⟨q, q1.of_block (by rw [Wr.add_block]; exact hc _ (h5 ad e (by omega)).2 (h5 ad e (by omega)).1), q2.kept hs hc⟩
theorem Kds.below {S : Nat → Prop} {w w' : World} {A : Option Addr} {n c : Nat} {ks : List Kd} (h : Kds S w A n c ks) (hb : Below w.heap.size w w') : Kds S w' A n c ks :=
  h.kept hb.size fun b _ hlt => hb.block b hlt
theorem Kds.mono {S S' : Nat → Prop} {w : World} {A : Option Addr} {n c : Nat} {ks : List Kd} (h : Kds S w A n c ks) (hS : ∀ b, b < w.heap.size → S b → S' b) : Kds S' w A n c ks := by
  obtain ⟨h1, h2, h3, h4, h5, h6⟩ := h
  refine ⟨h1, h2, h3, h4, fun ad e hn => ⟨(h5 ad e hn).1, hS _ (h5 ad e hn).1 (h5 ad e hn).2⟩, fun ad e j hj => ?_⟩
  obtain ⟨q, q1, q2⟩ := h6 ad e j hj
  exact ⟨q, q1, q2.mono hS⟩
theorem Kds.any {S : Nat → Prop} {w : World} {A : Option Addr} {n c : Nat} {ks : List Kd} (h : Kds S w A n c ks) : Kds Any w A n c ks := h.mono fun _ _ _ => trivial
theorem Kds.drew {S : Nat → Prop} {w : World} {A : Option Addr} {n c : Nat} {ks : List Kd} (h : Kds S w A n c ks) : Kds S w.drew A n c ks := h.below (Below.refl _ _).drew
theorem Kds.some {S : Nat → Prop} {w : World} {A : Option Addr} {n c : Nat} {ks : List Kd} (h : Kds S w A n c ks) (hn : 0 < n) : ∃ ad, A = .some ad := by
  cases A with
  | none => have := h.2.2.2.1 rfl; have := h.2.1; omega
  | some ad => exact ⟨ad, rfl⟩
theorem Kds.at {S : Nat → Prop} {w : World} {ad : Addr} {n c : Nat} {ks : List Kd} (h : Kds S w (.some ad) n c ks) (j : Nat) (hj : j < n) : ∃ q, KdAt w (ad.add (j * 2)) q ∧ KdIs S w q (kd ks j) := h.2.2.2.2.2 ad rfl j hj
/-- a part of it -/
theorem Kds.sub {S : Nat → Prop} {w : World} {ad : Addr} {n c : Nat} {ks : List Kd} (h : Kds S w (.some ad) n c ks) (k m : Nat) (hk : k + m ≤ n) (c' : Nat) (hc : m ≤ c') (hc9 : c' ≤ 9223372036854775807) : Kds S w (.some (ad.add (k * 2))) m c' ((ks.drop k).take m) := by
  obtain ⟨h1, h2, h3, h4, h5, h6⟩ := h
  refine ⟨by rw [List.length_take, List.length_drop]; omega, hc, hc9, fun e => (by cases e), fun a e hm => ?_, fun a e j hj => ?_⟩
  · injection e with e; subst e
    rw [Wr.add_block]; exact h5 ad rfl (by omega)
  · injection e with e; subst e
    obtain ⟨q, q1, q2⟩ := h6 ad rfl (k + j) (by omega)
    refine ⟨q, ?_, ?_⟩
    · rw [Wr.add_add, show k * 2 + j * 2 = (k + j) * 2 by omega]; exact q1
    · have e : kd ((ks.drop k).take m) j = kd ks (k + j) := by
        unfold kd
        rw [List.getD_eq_getElem?_getD, List.getD_eq_getElem?_getD, List.getElem?_take_of_lt hj, List.getElem?_drop]
      rw [e]; exact q2
/-- how a ratchet lies -/
structure RkQ where
  g : Int
  A : Option Addr
  n : Nat
  c : Nat
  K : Option Addr
  nk : Nat
  ck : Nat
abbrev RkQ.cs (q : RkQ) : Array Value := #[.int .i64 q.g, .slice q.A q.n q.c, .slice q.K q.nk q.ck]
structure RkIs (S : Nat → Prop) (w : World) (q : RkQ) (r : Rk) : Prop where
  g : q.g = r.gen
  sec : Txt Any w q.A q.n q.c r.sec
  inn : Inn S q.A q.n
  kept : Kds S w q.K q.nk q.ck r.kept
theorem RkIs.keep {S : Nat → Prop} {w w' : World} {q : RkQ} {r : Rk} (h : RkIs S w q r) (hs : w.heap.size ≤ w'.heap.size) (hc : ∀ b, S b → b < w.heap.size → w'.heap[b]? = w.heap[b]?) : RkIs S w' q r :=
  ⟨h.g, txt_keep h.sec h.inn hs hc, h.inn, h.kept.kept hs hc⟩
theorem RkIs.below {S : Nat → Prop} {w w' : World} {q : RkQ} {r : Rk} (h : RkIs S w q r) (hb : Below w.heap.size w w') : RkIs S w' q r := ⟨h.g, h.sec.below hb, h.inn, h.kept.below hb⟩
theorem RkIs.mono {S S' : Nat → Prop} {w : World} {q : RkQ} {r : Rk} (h : RkIs S w q r) (hS : ∀ b, b < w.heap.size → S b → S' b) : RkIs S' w q r := ⟨h.g, h.sec, (h.inn.and (txt_in h.sec)).mono fun b hb => hS b hb.2 hb.1, h.kept.mono hS⟩
theorem RkIs.any {S : Nat → Prop} {w : World} {q : RkQ} {r : Rk} (h : RkIs S w q r) : RkIs Any w q r := h.mono fun _ _ _ => trivial
theorem RkIs.drew {S : Nat → Prop} {w : World} {q : RkQ} {r : Rk} (h : RkIs S w q r) : RkIs S w.drew q r := h.below (Below.refl _ _).drew
def zRQ : RkQ := ⟨0, none, 0, 0, none, 0, 0⟩
theorem RkIs.zero (S : Nat → Prop) (w : World) : RkIs S w zRQ zR := ⟨rfl, Txt.nil _ _, fun h => absurd h (by decide), Kds.nil _ _⟩
/-- a ratchet's three cells in a block of its own -/
def RkB (q : RkQ) (w : World) (g : Nat) : Prop := w.heap[g]? = some (.cells q.cs 25 (0, 0))
theorem RkB.cs {q : RkQ} {g : Nat} {w : World} (h : RkB q w g) : w.cell? ⟨g, 0, none⟩ = some (.int .i64 q.g) ∧ w.cell? ⟨g, 1, none⟩ = some (.slice q.A q.n q.c) ∧ w.cell? ⟨g, 2, none⟩ = some (.slice q.K q.nk q.ck) :=
  ⟨cell_of_row w g 0 _ _ _ h, cell_of_row w g 1 _ _ _ h, cell_of_row w g 2 _ _ _ h⟩
theorem RkB.lt {q : RkQ} {g : Nat} {w : World} (h : RkB q w g) : g < w.heap.size := (Array.getElem?_eq_some_iff.1 h).1
theorem RkB.below {q : RkQ} {g B : Nat} {w w' : World} (h : RkB q w g) (hb : Below B w w') (hg : g < B) : RkB q w' g := (hb.block g hg).trans h
theorem RkB.new (q : RkQ) (w : World) : RkB q (w.alloc (.cells q.cs 25)) w.heap.size := heap_alloc_last w _
theorem rk_sized (q : RkQ) : (Tryd.prog.info? 25).map (·.size) = some q.cs.size := by
  rw [show (Tryd.prog.info? 25).map (·.size) = some 3 by kernel_rfl]; rfl
theorem rk_all (q : RkQ) : q.cs.all (·.oneCell') = true := by simp [RkQ.cs, Value.oneCell']

/-! ### Rows of one's own -/
def flat (qs : List KdQ) : List Value := (qs.map fun q => q.cs.toList).flatten
theorem cs_len (q : KdQ) : q.cs.toList.length = 2 := rfl
theorem flat_len : ∀ qs : List KdQ, (flat qs).length = qs.length * 2
  | [] => rfl
  | q :: qs => by
    have : flat (q :: qs) = q.cs.toList ++ flat qs := by simp [flat]
    rw [this, List.length_append, flat_len qs, cs_len, List.length_cons]; omega
theorem flat_cons (q : KdQ) (qs : List KdQ) : flat (q :: qs) = q.cs.toList ++ flat qs := by simp [flat]
theorem flat_append (a b : List KdQ) : flat (a ++ b) = flat a ++ flat b := by simp [flat]
theorem flat_at : ∀ (qs : List KdQ) (j k : Nat) (q : KdQ), qs[j]? = some q → k < 2 → (flat qs)[j * 2 + k]? = q.cs[k]?
  | [], j, k, q, h, _ => by simp at h
  | q' :: qs, 0, k, q, h, hk => by
    simp at h
    subst h
    rw [flat_cons, List.getElem?_append_left (by rw [cs_len]; omega)]
    simp
  | q' :: qs, j + 1, k, q, h, hk => by
    rw [flat_cons, List.getElem?_append_right (by rw [cs_len]; omega), cs_len, show (j + 1) * 2 + k - 2 = j * 2 + k by omega]
    exact flat_at qs j k q (by simpa using h) hk
theorem flat_one (qs : List KdQ) : ∀ u ∈ flat qs, u.oneCell' = true := by
  intro u hu
  unfold flat at hu
  rw [List.mem_flatten] at hu
  obtain ⟨l, hl, hu⟩ := hu
  obtain ⟨q, _, rfl⟩ := List.mem_map.1 hl
  simp [KdQ.cs] at hu
  rcases hu with rfl | rfl <;> rfl
theorem flat_take : ∀ (qs : List KdQ) (i : Nat), (flat qs).take (i * 2) = flat (qs.take i)
  | [], i => by simp [flat]
  | q :: qs, 0 => by simp [flat]
  | q :: qs, i + 1 => by
    rw [flat_cons, List.take_succ_cons, flat_cons, List.take_append, List.take_of_length_le (by rw [cs_len]; omega), cs_len, show (i + 1) * 2 - 2 = i * 2 by omega, flat_take qs i]
theorem flat_drop : ∀ (qs : List KdQ) (i : Nat), (flat qs).drop (i * 2) = flat (qs.drop i)
  | [], i => by simp [flat]
  | q :: qs, 0 => by simp [flat]
  | q :: qs, i + 1 => by
    rw [flat_cons, List.drop_succ_cons, List.drop_append, List.drop_of_length_le (by rw [cs_len]; omega), cs_len, show (i + 1) * 2 - 2 = i * 2 by omega, flat_drop qs i]; rfl
theorem kInfo : ∃ i : TypeInfo, Tryd.prog.info? 44 = some i ∧ i.zero = some (.agg zQ.cs) ∧ i.size = 2 ∧ i.bytes ≤ 200 ∧ 0 < i.bytes := by
  have h : (Tryd.prog.info? 44).map (fun i => (i.zero, i.size, i.bytes)) = some (some (.agg zQ.cs), 2, 32) := by kernel_rfl
  obtain ⟨i, hi, e⟩ := Option.map_eq_some_iff.1 h
  simp only [Prod.mk.injEq] at e
  exact ⟨i, hi, e.1, e.2.1, by omega, by omega⟩
/-- what is had lies elsewhere than a row -/
def Far (b : Option Nat) (A : Option Addr) (n : Nat) : Prop := Inn (fun k => b ≠ some k) A n
/-- a text outlives what is written into a row -/
theorem txt_far {w w' : World} {b : Option Nat} {A : Option Addr} {n c : Nat} {bs : List Nat} (h : Txt Any w A n c bs) (hf : Far b A n) (hg : w.grownBy w' b) : Txt Any w' A n c bs :=
  txt_keep h hf hg.size fun k hk hlt => hg.block k hlt (fun e => hk e.symm)
theorem far_new {w : World} {A : Option Addr} {n c : Nat} {bs : List Nat} (h : Txt Any w A n c bs) (g : Nat) (hg : w.heap.size ≤ g) : Far (some g) A n := fun hn ad e e' => by
  have := txt_in h hn ad e
  injection e' with e'; omega
theorem far_older {lo : Nat} {b : Option Nat} {A : Option Addr} {n : Nat} (h : Inn (fun x => lo ≤ x) A n) (hb : ∀ g, b = some g → g < lo) : Far b A n := fun hn ad e e' => by
  have := h hn ad e
  have := hb _ e'; omega
theorem far_none (A : Option Addr) (n : Nat) : Far none A n := fun _ _ _ e => by cases e
/-- kept keys in a row of one's own -/
structure OwnK (S : Nat → Prop) (base : Nat) (w : World) (v : Value) (n : Nat) (ks : List Kd) : Prop where
  len : ks.length = n
  own : ∀ g, v.ownBlock = some g → S g
  is : ∃ qs : List KdQ, qs.length = n ∧ w.ownsRow base 44 2 v n (flat qs) ∧ ∀ j q, qs[j]? = some q → KdIs S w q (kd ks j) ∧ Far v.ownBlock q.A q.n
theorem own_belowG {w w' : World} {base e sz n : Nat} {v : Value} {xs : List Value} (h : w.ownsRow base e sz v n xs) (hb : Below w.heap.size w w') : w'.ownsRow base e sz v n xs := by
  refine h.kept (row := none) ⟨hb.os, hb.tape, hb.output, hb.size, fun i hi _ => hb.block i hi⟩ ?_
  cases hq : v.ownBlock with
  | none => exact .inl rfl
  | some g => exact .inr (by simp)
theorem own_of_blocksG {w w' : World} {base e sz n : Nat} {v : Value} {xs : List Value} (h : w.ownsRow base e sz v n xs) (hb : ∀ b, v.ownBlock = some b → w'.heap[b]? = w.heap[b]?) : w'.ownsRow base e sz v n xs := by
  refine ⟨h.1, ?_⟩
  rcases h.2 with h1 | ⟨g, c, cur, he, hg, hc, rest⟩
  · exact .inl h1
  · subst he
    exact .inr ⟨g, c, cur, rfl, hg, (hb g rfl).trans hc, rest⟩
theorem OwnK.below {S : Nat → Prop} {base : Nat} {w w' : World} {v : Value} {n : Nat} {ks : List Kd} (h : OwnK S base w v n ks) (hb : Below w.heap.size w w') : OwnK S base w' v n ks := by
  obtain ⟨h0, h9, qs, h1, h2, h3⟩ := h
  exact ⟨h0, h9, qs, h1, own_belowG h2 hb, fun j q hq => ⟨(h3 j q hq).1.below hb, (h3 j q hq).2⟩⟩
theorem OwnK.lt {S : Nat → Prop} {base : Nat} {w : World} {v : Value} {n : Nat} {ks : List Kd} (h : OwnK S base w v n ks) : ∀ g, v.ownBlock = some g → base ≤ g ∧ g < w.heap.size := by
  obtain ⟨_, _, qs, _, h2, _⟩ := h
  exact fun g e => h2.lt g e
theorem OwnK.keep {S : Nat → Prop} {base : Nat} {w w' : World} {v : Value} {n : Nat} {ks : List Kd} (h : OwnK S base w v n ks) (hs : w.heap.size ≤ w'.heap.size) (hc : ∀ b, S b → b < w.heap.size → w'.heap[b]? = w.heap[b]?) : OwnK S base w' v n ks := by
  have hlt := h.lt
  obtain ⟨h0, h9, qs, h1, h2, h3⟩ := h
  exact ⟨h0, h9, qs, h1, own_of_blocksG h2 fun b e => hc b (h9 b e) (hlt b e).2, fun j q hq => ⟨(h3 j q hq).1.kept hs hc, (h3 j q hq).2⟩⟩
theorem OwnK.mono {S S' : Nat → Prop} {base : Nat} {w : World} {v : Value} {n : Nat} {ks : List Kd} (h : OwnK S base w v n ks) (hS : ∀ b, b < w.heap.size → S b → S' b) : OwnK S' base w v n ks := by
  have hlt := h.lt
  obtain ⟨h0, h9, qs, h1, h2, h3⟩ := h
  exact ⟨h0, fun g e => hS g (hlt g e).2 (h9 g e), qs, h1, h2, fun j q hq => ⟨(h3 j q hq).1.mono hS, (h3 j q hq).2⟩⟩
theorem OwnK.nil (S : Nat → Prop) (w : World) (base : Nat) : OwnK S base w (.slice none 0 0) 0 [] := ⟨rfl, fun g e => (by cases e), [], rfl, ⟨rfl, .inl ⟨rfl, rfl⟩⟩, fun j q hq => by simp at hq⟩
theorem OwnK.made {S : Nat → Prop} (w : World) {base : Nat} (h : base ≤ w.heap.size) (hS : S w.heap.size) : OwnK S base (w.alloc (.cells #[] 44)) (.slice (some ⟨w.heap.size, 0, none⟩) 0 0) 0 [] :=
  ⟨rfl, fun g e => (by injection e with e; have e : w.heap.size = g := e; rw [← e]; exact hS), [], rfl, World.ownsRow_made w #[] 0 h (by unfold maxLen; omega) rfl, fun j q hq => by simp at hq⟩
theorem OwnK.base {S : Nat → Prop} {base base' : Nat} {w : World} {v : Value} {n : Nat} {ks : List Kd} (h : OwnK S base w v n ks) (hb : base' ≤ base) : OwnK S base' w v n ks := by
  obtain ⟨h0, h9, qs, h1, h2, h3⟩ := h
  refine ⟨h0, h9, qs, h1, ⟨h2.1, ?_⟩, h3⟩
  rcases h2.2 with h5 | ⟨g', c', cur, e, hg, rest⟩
  · exact .inl h5
  · exact .inr ⟨g', c', cur, e, by omega, rest⟩
theorem OwnK.slice {S : Nat → Prop} {base : Nat} {w : World} {v : Value} {n : Nat} {ks : List Kd} (h : OwnK S base w v n ks) : ∃ A c, v = .slice A n c := by
  obtain ⟨_, _, qs, _, h2, _⟩ := h
  rcases h2.2 with ⟨e, h0⟩ | ⟨g, c, cur, e, _⟩
  · subst h0; exact ⟨_, _, e⟩
  · exact ⟨_, _, e⟩
theorem addr_zero (g j : Nat) : (⟨g, 0, none⟩ : Addr).add j = ⟨g, j, none⟩ := by unfold Addr.add; split <;> simp_all
theorem OwnK.kds {S : Nat → Prop} {base : Nat} {w : World} {A : Option Addr} {n c : Nat} {ks : List Kd} (h : OwnK S base w (.slice A n c) n ks) : Kds S w A n c ks := by
  obtain ⟨h0, h9, qs, h1, h2, h3⟩ := h
  have hlt := h2.lt
  rcases h2.2 with ⟨e, h5⟩ | ⟨g, c', cur, e, hg, hc, a1, a2, _⟩
  · injection e with e1 e2 e3
    subst e1 e2 e3
    obtain rfl : ks = [] := List.eq_nil_of_length_eq_zero h0
    exact Kds.nil _ _
  · injection e with e1 e2 e3
    subst e1 e3
    refine ⟨h0, a1, a2, fun e => (by cases e), fun ad e hn => ?_, fun ad e j hj => ?_⟩
    · injection e with e
      subst e
      exact ⟨(hlt g rfl).2, h9 g rfl⟩
    · injection e with e
      subst e
      have hq : qs[j]? = some qs[j] := List.getElem?_eq_getElem (by omega)
      refine ⟨qs[j], fun i hi => ?_, (h3 j _ hq).1⟩
      rw [addr_zero, Addr.add_mid, h2.cellAt (j * 2 + i) (by have := Nat.mul_le_mul_right 2 (show j + 1 ≤ n by omega); omega), flat_at qs j i _ hq hi]
theorem OwnK.far {S : Nat → Prop} {base : Nat} {w : World} {ad : Addr} {n c : Nat} {ks : List Kd} (h : OwnK S base w (.slice (some ad) n c) n ks) (j : Nat) (hj : j < n) (q : KdQ) (hq : KdAt w (ad.add (j * 2)) q) : Far (some ad.block) q.A q.n := by
  obtain ⟨h0, _, qs, h1, h2, h3⟩ := h
  rcases h2.2 with ⟨e, h5⟩ | ⟨g, c', cur, e, hg, hc, a1, a2, _⟩
  · cases e
  · injection e with e1 e2 e3
    injection e1 with e1
    subst e1 e3
    have hq' : qs[j]? = some qs[j] := List.getElem?_eq_getElem (by omega)
    have e : q = qs[j] := hq.same (fun i hi => by
      rw [addr_zero, Addr.add_mid, h2.cellAt (j * 2 + i) (by have := Nat.mul_le_mul_right 2 (show j + 1 ≤ n by omega); omega), flat_at qs j i _ hq' hi])
    rw [e]
    exact (h3 j _ hq').2
theorem Kds.list {S : Nat → Prop} {w : World} {ad : Addr} {n c : Nat} {ks : List Kd} (h : Kds S w (.some ad) n c ks) : ∃ qs : List KdQ, qs.length = n ∧ ∀ j q, qs[j]? = .some q → j < n ∧ KdAt w (ad.add (j * 2)) q ∧ KdIs S w q (kd ks j) := by
  have hx : ∀ j, ∃ q, j < n → KdAt w (ad.add (j * 2)) q ∧ KdIs S w q (kd ks j) := fun j => by
    by_cases hj : j < n
    · obtain ⟨q, hq⟩ := h.at j hj; exact ⟨q, fun _ => hq⟩
    · exact ⟨zQ, fun h => absurd h hj⟩
  obtain ⟨f, hf⟩ := Classical.axiomOfChoice hx
  refine ⟨(List.range n).map f, by simp, fun j q hq => ?_⟩
  have hj : j < n := by
    rcases Nat.lt_or_ge j n with h | h
    · exact h
    · rw [List.getElem?_eq_none (by simp; omega)] at hq; cases hq
  rw [List.getElem?_map, List.getElem?_range hj] at hq
  simp at hq
  subst hq
  exact ⟨hj, hf j hj⟩
theorem flat_news {w : World} {ad : Addr} {qs : List KdQ} (h : ∀ j q, qs[j]? = some q → KdAt w (ad.add (j * 2)) q) : ∀ j v, (flat qs)[j]? = some v → w.cell? (ad.add j) = some v := by
  intro j v hv
  have hj : j < (flat qs).length := by
    rcases Nat.lt_or_ge j (flat qs).length with h | h
    · exact h
    · rw [List.getElem?_eq_none h] at hv; cases hv
  rw [flat_len] at hj
  have hq : qs[j / 2]? = some (qs[j / 2]'(by omega)) := List.getElem?_eq_getElem (by omega)
  have h1 := h (j / 2) _ hq (j % 2) (Nat.mod_lt _ (by decide))
  have h2 := flat_at qs (j / 2) (j % 2) _ hq (Nat.mod_lt _ (by decide))
  rw [show j / 2 * 2 + j % 2 = j by omega] at h2
  rw [Wr.add_add, show j / 2 * 2 + j % 2 = j by omega] at h1
  rw [h1, ← h2, hv]
theorem kd_append (a b : List Kd) (j : Nat) : kd (a ++ b) j = if j < a.length then kd a j else kd b (j - a.length) := by
  unfold kd
  simp only [List.getD_eq_getElem?_getD]
  split
  · rename_i h; rw [List.getElem?_append_left h]
  · rename_i h; rw [List.getElem?_append_right (by omega)]
theorem run_append_kd {w : World} {S : Nat → Prop} (base n m c : Nat) (ty : TypeId) (v : Value) (ks ms : List Kd) (A : Option Addr) (hO : OwnK S base w v n ks) (hM : Kds Any w A m c ms)
    (hF : ∀ ad, A = some ad → ∀ j q, j < m → KdAt w (ad.add (j * 2)) q → Inn S q.A q.n ∧ Far v.ownBlock q.A q.n) (hbd : n + m ≤ 1000000) (hbase : base ≤ w.heap.size) (hS : S w.heap.size) :
    ∃ v' w', (Builtin.append_ #[23, 23] ty #[v, .slice A m c]).run Tryd.prog w = .ok v' w' ∧ OwnK S base w' v' (n + m) (ks ++ ms) ∧ w.grownBy w' v.ownBlock ∧ (v'.ownBlock = v.ownBlock ∨ v'.ownBlock = some w.heap.size) := by
  obtain ⟨i, hi, hz, hsz, hby, hpos⟩ := kInfo
  cases A with
  | none =>
    have hc0 := hM.2.2.2.1 rfl
    have hm := hM.2.1
    obtain rfl : m = 0 := by omega
    have hy : ms = [] := List.eq_nil_of_length_eq_zero hM.len
    subst hy hc0
    have hO' := hO
    obtain ⟨h0, h9, qs, h1, h2, h3⟩ := hO
    exact ⟨v, w, run_append_owned_none (P := Tryd.prog) (w := w) base 23 ty 44 i 2 Tryd.underlying23 hi _ n (flat qs) h2, by simpa using hO', World.grownBy.refl _ _, .inl rfl⟩
  | some ad =>
    obtain ⟨h0, h9, qs, h1, h2, h3⟩ := hO
    obtain ⟨ps, hl, hps⟩ := hM.list
    have hbytes : (n + m) * i.bytes ≤ 140737488355328 := Nat.le_trans (Nat.mul_le_mul hbd hby) (by decide)
    obtain ⟨v', w', hrun, g1, g2, g3, g4⟩ := run_append_own_at (P := Tryd.prog) w base 23 ty 44 i (.agg zQ.cs) 2 i.bytes Tryd.underlying23 hi hz hsz rfl rfl (by omega) _ n (flat qs) h2 ad m c (flat ps) (by rw [flat_len, hl])
      (flat_news fun j q h => (hps j q h).2.1) (flat_one ps) (by unfold maxLen; omega) hbytes hbase
    rw [← flat_append] at g1
    have hown : ∀ g, v'.ownBlock = some g → S g := fun g e => by
      rcases g4 with e' | e'
      · exact h9 g (e'.symm.trans e)
      · rw [e'] at e; injection e with e; rw [← e]; exact hS
    refine ⟨v', w', hrun, ⟨by rw [List.length_append, h0, hM.len], hown, qs ++ ps, by rw [List.length_append, h1, hl], g1, fun j q hq => ?_⟩, g2, g4⟩
    have go : ∀ (q : KdQ) (k : Kd), KdIs Any w q k → Inn S q.A q.n → Far v.ownBlock q.A q.n → KdIs S w' q k ∧ Far v'.ownBlock q.A q.n := fun q k a1 a0 a2 =>
      ⟨⟨a1.g, txt_far a1.key a2 g2, a0⟩, by
        rcases g4 with e | e
        · rw [e]; exact a2
        · rw [e]; exact far_new a1.key _ (Nat.le_refl _)⟩
    rw [kd_append, h0]
    by_cases hj : j < n
    · rw [if_pos hj]
      rw [List.getElem?_append_left (by omega)] at hq
      exact go q _ ((h3 j q hq).1.mono fun _ _ _ => trivial) (h3 j q hq).1.inn (h3 j q hq).2
    · rw [if_neg hj]
      rw [List.getElem?_append_right (by omega), h1] at hq
      obtain ⟨b1, b2, b3⟩ := hps _ q hq
      exact go q _ b3 (hF ad rfl _ q b1 b2).1 (hF ad rfl _ q b1 b2).2
theorem wp_append_kd {o : Oper} {a : Act} {w : World} {K : Act → World → Prop} {Q : Exit → Act → World → Prop} (s x : Operand)
    (ho : o.op = .call { callee := .builtin .append, args := #[s, x], argTypes := #[23, 23] }) (S : Nat → Prop) (base n m c : Nat) (v : Value) (ks ms : List Kd) (A : Option Addr)
    (hs : a.eval s = v) (hx : a.eval x = .slice A m c) (hO : OwnK S base w v n ks) (hM : Kds Any w A m c ms) (hF : ∀ ad, A = some ad → ∀ j q, j < m → KdAt w (ad.add (j * 2)) q → Inn S q.A q.n ∧ Far v.ownBlock q.A q.n) (hbd : n + m ≤ 1000000) (hbase : base ≤ w.heap.size) (hS : S w.heap.size)
    (k : ∀ v' w', OwnK S base w' v' (n + m) (ks ++ ms) → w.grownBy w' v.ownBlock → (v'.ownBlock = v.ownBlock ∨ v'.ownBlock = some w.heap.size) → K (a.put o.dst v') w') :
    Oper.wp Tryd.prog o a w K Q := by
  obtain ⟨v', w', hrun, h1, h2, h3⟩ := run_append_kd base n m c o.type v ks ms A hO hM hF hbd hbase hS
  unfold Oper.wp execOp
  simp only [ho, resolve, invoke, builtin, Sem.run_bind, Sem.run_pure, Result.andThen_ok, List.map_toArray, List.map_cons, List.map_nil, hs, hx, hrun]
  exact k v' w' h1 h2 h3
theorem wpList_append_kd {ops : Array Oper} {rest : List Oper} {o : Oper} {a : Act} {w : World} {Q : Exit → Act → World → Prop} (hgd : o.guard = none) (s x : Operand)
    (ho : o.op = .call { callee := .builtin .append, args := #[s, x], argTypes := #[23, 23] }) (S : Nat → Prop) (base n m c : Nat) (v : Value) (ks ms : List Kd) (A : Option Addr)
    (hs : a.eval s = v) (hx : a.eval x = .slice A m c) (hO : OwnK S base w v n ks) (hM : Kds Any w A m c ms) (hF : ∀ ad, A = some ad → ∀ j q, j < m → KdAt w (ad.add (j * 2)) q → Inn S q.A q.n ∧ Far v.ownBlock q.A q.n) (hbd : n + m ≤ 1000000) (hbase : base ≤ w.heap.size) (hS : S w.heap.size)
    (k : ∀ v' w', OwnK S base w' v' (n + m) (ks ++ ms) → w.grownBy w' v.ownBlock → (v'.ownBlock = v.ownBlock ∨ v'.ownBlock = some w.heap.size) → wpList Tryd.prog ops Q rest (a.put o.dst v') w') :
    wpList Tryd.prog ops Q (o :: rest) a w :=
  wpList_plain hgd fun _ hK => wp_append_kd s x ho S base n m c v ks ms A hs hx hO hM hF hbd hbase hS fun v' w' h1 h2 h3 => hK _ _ (k v' w' h1 h2 h3)
/-- one kept key in a block that was just laid -/
theorem one_kd (w : World) (S : Nat → Prop) (q : KdQ) (k : Kd) (h : KdIs S w q k) : Kds Any (w.alloc (.cells q.cs 44)) (some ⟨w.heap.size, 0, none⟩) 1 1 [k] ∧ (∀ ad, (some ⟨w.heap.size, 0, none⟩ : Option Addr) = some ad → ∀ j q', j < 1 → KdAt (w.alloc (.cells q.cs 44)) (ad.add (j * 2)) q' → q' = q) := by
  have hat : KdAt (w.alloc (.cells q.cs 44)) ⟨w.heap.size, 0, none⟩ q := by
    intro i hi
    rw [addr_zero]
    match i, hi with
    | 0, _ => exact cell_of_row _ _ 0 _ _ _ (heap_alloc_last w _)
    | 1, _ => exact cell_of_row _ _ 1 _ _ _ (heap_alloc_last w _)
  refine ⟨⟨rfl, Nat.le_refl _, by omega, fun e => (by cases e), fun ad e _ => by injection e with e; subst e; exact ⟨by simp, trivial⟩, fun ad e j hj => ?_⟩, fun ad e j q' hj h' => ?_⟩
  · injection e with e
    subst e
    obtain rfl : j = 0 := by omega
    exact ⟨q, hat, (h.below ((Below.refl w.heap.size w).alloc (Nat.le_refl _) _)).mono fun _ _ _ => trivial⟩
  · injection e with e
    subst e
    obtain rfl : j = 0 := by omega
    exact h'.same hat
theorem below_ownG {w w1 w2 : World} {S : Nat → Prop} {base lo : Nat} {v : Value} {n : Nat} {ks : List Kd} (h : Below lo w w1) (ho : OwnK S base w1 v n ks) (hb : lo ≤ base) (hlo : lo ≤ w1.heap.size) (k : w1.grownBy w2 v.ownBlock) : Below lo w w2 := by
  refine ⟨k.os.trans h.os, k.tape.trans h.tape, k.output.trans h.output, Nat.le_trans h.size k.size, fun i hi => (k.block i (Nat.lt_of_lt_of_le hi hlo) ?_).trans (h.block i hi)⟩
  intro e
  have := (ho.lt i e.symm).1
  omega
end Go.Proofs.YtkplkfokpniflaaDoor.Ra
