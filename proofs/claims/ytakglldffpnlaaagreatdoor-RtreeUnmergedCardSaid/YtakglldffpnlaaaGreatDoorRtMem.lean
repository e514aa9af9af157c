/- Numbers and nodes that lie in memory. -/
import Derived.Test.YtakglldffpnlaaaGreatDoorRtWalkA
namespace Go.Proofs.YtakglldffpnlaaaGreatDoor.Rt
set_option linter.all false
open Go.RowKit
open Wr (Txt Any New)

def gi (l : List Int) (i : Nat) : Int := l.getD i 0
theorem gi_mem {l : List Int} {i : Nat} (h : i < l.length) : gi l i ∈ l := by
  unfold gi
  rw [List.getD_eq_getElem?_getD, List.getElem?_eq_getElem h]; exact List.getElem_mem _
theorem gi_drop (l : List Int) (k : Nat) (h : k < l.length) : l.drop k = gi l k :: l.drop (k + 1) := by
  unfold gi
  rw [List.getD_eq_getElem?_getD, List.getElem?_eq_getElem h]; exact List.drop_eq_getElem_cons h
theorem gi_take (l : List Int) (k : Nat) (h : k < l.length) : l.take (k + 1) = l.take k ++ [gi l k] := by
  unfold gi
  rw [List.getD_eq_getElem?_getD, List.take_succ, List.getElem?_eq_getElem h]; rfl
/-- a slice of ints, in a block of which S is true -/
def Ints (S : Nat → Prop) (w : World) (A : Option Addr) (n c : Nat) (xs : List Int) : Prop :=
  xs.length = n ∧ n ≤ c ∧ c ≤ 9223372036854775807 ∧ (A = none → c = 0) ∧ (∀ ad, A = some ad → S ad.block ∧ (0 < n → ad.block < w.heap.size)) ∧
  ∀ ad, A = some ad → ∀ j, j < n → w.cell? (ad.add j) = some (.int .i64 (gi xs j))
theorem Ints.nil (S : Nat → Prop) (w : World) : Ints S w none 0 0 [] := ⟨rfl, Nat.le_refl _, by omega, fun _ => rfl, fun _ e => (by cases e), fun _ e => (by cases e)⟩
theorem Ints.len {S : Nat → Prop} {w : World} {A : Option Addr} {n c : Nat} {xs : List Int} (h : Ints S w A n c xs) : xs.length = n := h.1
theorem Ints.mono {S S' : Nat → Prop} {w : World} {A : Option Addr} {n c : Nat} {xs : List Int} (h : Ints S w A n c xs) (hS : ∀ b, S b → S' b) : Ints S' w A n c xs := by
  obtain ⟨h1, h2, h3, h4, h5, h6⟩ := h
  exact ⟨h1, h2, h3, h4, fun ad e => ⟨hS _ (h5 ad e).1, (h5 ad e).2⟩, h6⟩
theorem Ints.kept {S : Nat → Prop} {w w' : World} {A : Option Addr} {n c : Nat} {xs : List Int} (h : Ints S w A n c xs) (hs : w.heap.size ≤ w'.heap.size) (hc : ∀ b, S b → b < w.heap.size → w'.heap[b]? = w.heap[b]?) : Ints S w' A n c xs := by
  obtain ⟨h1, h2, h3, h4, h5, h6⟩ := h
  refine ⟨h1, h2, h3, h4, fun ad e => ⟨(h5 ad e).1, fun hn => by have := (h5 ad e).2 hn; omega⟩, fun ad e j hj => ?_⟩
  have hbl : (ad.add j).block = ad.block := by unfold Addr.add; split <;> rfl
  rw [World.cell?_of_block (hc (ad.add j).block (by rw [hbl]; exact (h5 ad e).1) (by rw [hbl]; exact (h5 ad e).2 (by omega)))]
  exact h6 ad e j hj
theorem Ints.below {S : Nat → Prop} {w w' : World} {A : Option Addr} {n c : Nat} {xs : List Int} (h : Ints S w A n c xs) (hb : Below w.heap.size w w') : Ints S w' A n c xs := h.kept hb.size fun b _ hlt => hb.block b hlt
theorem Ints.any {S : Nat → Prop} {w : World} {A : Option Addr} {n c : Nat} {xs : List Int} (h : Ints S w A n c xs) : Ints Any w A n c xs := h.mono fun _ _ => True.intro
theorem Ints.some {S : Nat → Prop} {w : World} {A : Option Addr} {n c : Nat} {xs : List Int} (h : Ints S w A n c xs) (hn : 0 < n) : ∃ ad, A = .some ad := by
  cases A with
  | none => have := h.2.2.2.1 rfl; have := h.2.1; omega
  | some ad => exact ⟨ad, rfl⟩
theorem Ints.cell {S : Nat → Prop} {w : World} {ad : Addr} {n c : Nat} {xs : List Int} (h : Ints S w (.some ad) n c xs) (j : Nat) (hj : j < n) : w.cell? (ad.add j) = .some (.int .i64 (gi xs j)) := h.2.2.2.2.2 ad rfl j hj

/-- how a node lies -/
structure NdQ where
  k : Int
  A1 : Option Addr
  n1 : Nat
  c1 : Nat
  A2 : Option Addr
  n2 : Nat
  c2 : Nat
  A3 : Option Addr
  n3 : Nat
  c3 : Nat
  A4 : Option Addr
  n4 : Nat
  c4 : Nat
  A5 : Option Addr
  n5 : Nat
  c5 : Nat
abbrev NdQ.cs (q : NdQ) : Array Value := ndc q.k q.A1 q.n1 q.c1 q.A2 q.n2 q.c2 q.A3 q.n3 q.c3 q.A4 q.n4 q.c4 q.A5 q.n5 q.c5
def zeroQ : NdQ := ⟨0, none, 0, 0, none, 0, 0, none, 0, 0, none, 0, 0, none, 0, 0⟩
/-- what it is -/
structure NdIs (S : Nat → Prop) (w : World) (q : NdQ) (n : Nd) : Prop where
  k : q.k = n.kind
  ek : Txt S w q.A1 q.n1 q.c1 n.ek
  vk : Txt S w q.A2 q.n2 q.c2 n.vk
  nm : Txt S w q.A3 q.n3 q.c3 n.name
  ab : Txt S w q.A4 q.n4 q.c4 n.above
  un : Ints S w q.A5 q.n5 q.c5 n.un
theorem NdIs.kept {S : Nat → Prop} {w w' : World} {q : NdQ} {n : Nd} (h : NdIs S w q n) (hs : w.heap.size ≤ w'.heap.size) (hc : ∀ b, S b → b < w.heap.size → w'.heap[b]? = w.heap[b]?) : NdIs S w' q n :=
  ⟨h.k, h.ek.kept hs hc, h.vk.kept hs hc, h.nm.kept hs hc, h.ab.kept hs hc, h.un.kept hs hc⟩
theorem NdIs.below {S : Nat → Prop} {w w' : World} {q : NdQ} {n : Nd} (h : NdIs S w q n) (hb : Below w.heap.size w w') : NdIs S w' q n := h.kept hb.size fun b _ hlt => hb.block b hlt
theorem NdIs.mono {S S' : Nat → Prop} {w : World} {q : NdQ} {n : Nd} (h : NdIs S w q n) (hS : ∀ b, S b → S' b) : NdIs S' w q n :=
  ⟨h.k, h.ek.mono hS, h.vk.mono hS, h.nm.mono hS, h.ab.mono hS, h.un.mono hS⟩
theorem NdIs.zero (S : Nat → Prop) (w : World) : NdIs S w zeroQ blank := ⟨rfl, Txt.nil _ _, Txt.nil _ _, Txt.nil _ _, Txt.nil _ _, Ints.nil _ _⟩
/-- .. at an address -/
def NdAt (w : World) (ad : Addr) (q : NdQ) : Prop := ∀ i, i < 6 → w.cell? (ad.add i) = q.cs[i]?
theorem add_pos (ad : Addr) (i : Nat) : ad.add (i + 1) = ⟨ad.block, ad.off + (i + 1), none⟩ := rfl
theorem NdAt.cells {w : World} {ad : Addr} {q : NdQ} (h : NdAt w ad q) : w.cell? ad = some (.int .i64 q.k) ∧ w.cell? ⟨ad.block, ad.off + 1, none⟩ = some (.slice q.A1 q.n1 q.c1) ∧ w.cell? ⟨ad.block, ad.off + 2, none⟩ = some (.slice q.A2 q.n2 q.c2) ∧
    w.cell? ⟨ad.block, ad.off + 3, none⟩ = some (.slice q.A3 q.n3 q.c3) ∧ w.cell? ⟨ad.block, ad.off + 4, none⟩ = some (.slice q.A4 q.n4 q.c4) ∧ w.cell? ⟨ad.block, ad.off + 5, none⟩ = some (.slice q.A5 q.n5 q.c5) :=
  ⟨h 0 (by decide), h 1 (by decide), h 2 (by decide), h 3 (by decide), h 4 (by decide), h 5 (by decide)⟩
theorem NdAt.of_block {w w' : World} {ad : Addr} {q : NdQ} (h : NdAt w ad q) (e : w'.heap[ad.block]? = w.heap[ad.block]?) : NdAt w' ad q := by
  intro i hi
  have hbl : (ad.add i).block = ad.block := by unfold Addr.add; split <;> rfl
  rw [World.cell?_of_block (w' := w') (w := w) (by rw [hbl]; exact e)]
  exact h i hi
/-- a slice of nodes: in a block of which R is true, what they have in blocks of which S is true -/
def Nodes (R S : Nat → Prop) (w : World) (A : Option Addr) (n c : Nat) (ns : List Nd) : Prop :=
  ns.length = n ∧ n ≤ c ∧ c ≤ 9223372036854775807 ∧ (A = none → c = 0) ∧ (∀ ad, A = some ad → R ad.block ∧ (0 < n → ad.block < w.heap.size)) ∧
  ∀ ad, A = some ad → ∀ j, j < n → ∃ q, NdAt w (ad.add (j * 6)) q ∧ NdIs S w q (nd ns j)
theorem Nodes.len {R S : Nat → Prop} {w : World} {A : Option Addr} {n c : Nat} {ns : List Nd} (h : Nodes R S w A n c ns) : ns.length = n := h.1
theorem Nodes.kept {R S : Nat → Prop} {w w' : World} {A : Option Addr} {n c : Nat} {ns : List Nd} (h : Nodes R S w A n c ns) (hs : w.heap.size ≤ w'.heap.size) (hr : ∀ b, R b → b < w.heap.size → w'.heap[b]? = w.heap[b]?) (hc : ∀ b, S b → b < w.heap.size → w'.heap[b]? = w.heap[b]?) : Nodes R S w' A n c ns := by
  obtain ⟨h1, h2, h3, h4, h5, h6⟩ := h
  refine ⟨h1, h2, h3, h4, fun ad e => ⟨(h5 ad e).1, fun hn => by have := (h5 ad e).2 hn; omega⟩, fun ad e j hj => ?_⟩
  obtain ⟨q, q1, q2⟩ := h6 ad e j hj
  have hbl : (ad.add (j * 6)).block = ad.block := by unfold Addr.add; split <;> rfl
  exact ⟨q, q1.of_block (by rw [hbl]; exact hr _ (h5 ad e).1 ((h5 ad e).2 (by omega))), q2.kept hs hc⟩
theorem Nodes.below {R S : Nat → Prop} {w w' : World} {A : Option Addr} {n c : Nat} {ns : List Nd} (h : Nodes R S w A n c ns) (hb : Below w.heap.size w w') : Nodes R S w' A n c ns :=
  h.kept hb.size (fun b _ hlt => hb.block b hlt) fun b _ hlt => hb.block b hlt
theorem Nodes.mono {R R' S S' : Nat → Prop} {w : World} {A : Option Addr} {n c : Nat} {ns : List Nd} (h : Nodes R S w A n c ns) (hR : ∀ b, R b → R' b) (hS : ∀ b, S b → S' b) : Nodes R' S' w A n c ns := by
  obtain ⟨h1, h2, h3, h4, h5, h6⟩ := h
  refine ⟨h1, h2, h3, h4, fun ad e => ⟨hR _ (h5 ad e).1, (h5 ad e).2⟩, fun ad e j hj => ?_⟩
  obtain ⟨q, q1, q2⟩ := h6 ad e j hj
  exact ⟨q, q1, q2.mono hS⟩
theorem Nodes.any {R S : Nat → Prop} {w : World} {A : Option Addr} {n c : Nat} {ns : List Nd} (h : Nodes R S w A n c ns) : Nodes Any Any w A n c ns := h.mono (fun _ _ => True.intro) fun _ _ => True.intro
theorem Nodes.some {R S : Nat → Prop} {w : World} {A : Option Addr} {n c : Nat} {ns : List Nd} (h : Nodes R S w A n c ns) (hn : 0 < n) : ∃ ad, A = .some ad := by
  cases A with
  | none => have := h.2.2.2.1 rfl; have := h.2.1; omega
  | some ad => exact ⟨ad, rfl⟩
theorem Nodes.at {R S : Nat → Prop} {w : World} {ad : Addr} {n c : Nat} {ns : List Nd} (h : Nodes R S w (.some ad) n c ns) (j : Nat) (hj : j < n) : ∃ q, NdAt w (ad.add (j * 6)) q ∧ NdIs S w q (nd ns j) := h.2.2.2.2.2 ad rfl j hj
/-- a tree's two cells in a block of its own -/
def TrB (d : Int) (A : Option Addr) (n c : Nat) (w : World) (g : Nat) : Prop := w.heap[g]? = some (.cells #[.int .i64 d, .slice A n c] 24 (0, 0))
theorem TrB.cs {d : Int} {A : Option Addr} {n c g : Nat} {w : World} (h : TrB d A n c w g) : w.cell? ⟨g, 0, none⟩ = some (.int .i64 d) ∧ w.cell? ⟨g, 1, none⟩ = some (.slice A n c) :=
  ⟨cell_of_row w g 0 _ _ _ h, cell_of_row w g 1 _ _ _ h⟩
theorem TrB.below {d : Int} {A : Option Addr} {n c g B : Nat} {w w' : World} (h : TrB d A n c w g) (hb : Below B w w') (hg : g < B) : TrB d A n c w' g := (hb.block g hg).trans h
theorem TrB.new (d : Int) (A : Option Addr) (n c : Nat) (w : World) : TrB d A n c (w.alloc (.cells #[.int .i64 d, .slice A n c] 24)) w.heap.size := heap_alloc_last w _
theorem TrB.lt {d : Int} {A : Option Addr} {n c g : Nat} {w : World} (h : TrB d A n c w g) : g < w.heap.size := (Array.getElem?_eq_some_iff.1 h).1
end Go.Proofs.YtakglldffpnlaaaGreatDoor.Rt
