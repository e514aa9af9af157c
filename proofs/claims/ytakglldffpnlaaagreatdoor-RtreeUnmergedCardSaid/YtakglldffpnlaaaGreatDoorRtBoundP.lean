/- Plain: two right trees whose tops have one sum are one tree, or a clash is found. -/
import Derived.Test.YtakglldffpnlaaaGreatDoorRtWalkL
namespace Go.Proofs.YtakglldffpnlaaaGreatDoor.Rt
set_option linter.all false

theorem be_app {k m n : Nat} {x y : List Nat} (h : Wr.be k m ++ x = Wr.be k n ++ y) (hm : m < 256 ^ k) (hn : n < 256 ^ k) : m = n ∧ x = y := by
  obtain ⟨h1, h2⟩ := List.append_inj h (by rw [Wr.be_len, Wr.be_len])
  refine ⟨?_, h2⟩
  have a := Wr.val_be k m
  have b := Wr.val_be k n
  rw [h1, b, Nat.mod_eq_of_lt hm, Nat.mod_eq_of_lt hn] at a
  exact a.symm
theorem tx_app {s t x y : List Nat} (hs : s.length ≤ 1048576) (ht : t.length ≤ 1048576) (h : Wr.txB s ++ x = Wr.txB t ++ y) : s = t ∧ x = y := by
  obtain rfl := Wr.txB_apart hs ht h
  exact ⟨rfl, List.append_cancel_left h⟩
theorem unB_cons (a : Int) (l : List Int) : unB (a :: l) = Wr.be 2 a.toNat ++ unB l := by simp [unB]
theorem un_app : ∀ {a b : List Int} {x y : List Nat}, a.length = b.length → (∀ j ∈ a, 0 ≤ j ∧ j < 65536) → (∀ j ∈ b, 0 ≤ j ∧ j < 65536) → unB a ++ x = unB b ++ y → a = b ∧ x = y
  | [], [], _, _, _, _, _, h => ⟨rfl, by simpa [unB] using h⟩
  | a :: la, b :: lb, x, y, hl, ha, hb, h => by
    rw [unB_cons, unB_cons, List.append_assoc, List.append_assoc] at h
    have a1 := ha a (List.mem_cons_self ..)
    have b1 := hb b (List.mem_cons_self ..)
    obtain ⟨h1, h2⟩ := be_app h (by omega) (by omega)
    obtain ⟨h3, h4⟩ := un_app (by simpa using hl) (fun j hj => ha j (List.mem_cons_of_mem _ hj)) (fun j hj => hb j (List.mem_cons_of_mem _ hj)) h2
    exact ⟨by rw [h3, show a = b by omega], h4⟩
  | [], _ :: _, _, _, hl, _, _, _ => by simp at hl
  | _ :: _, [], _, _, hl, _, _, _ => by simp at hl
theorem nodeB_app {a b : Nd} (ha : Small a) (hb : Small b) {x y : List Nat} (h : nodeB a ++ x = nodeB b ++ y) : a = b ∧ x = y := by
  unfold nodeB at h
  simp only [List.append_assoc] at h
  have ka := ha.k; have kb := hb.k
  obtain ⟨h1, h⟩ := be_app h (by omega) (by omega)
  obtain ⟨h2, h⟩ := tx_app (by have := ha.ek; omega) (by have := hb.ek; omega) h
  obtain ⟨h3, h⟩ := tx_app (by have := ha.vk; omega) (by have := hb.vk; omega) h
  obtain ⟨h4, h⟩ := tx_app (by have := ha.nm; omega) (by have := hb.nm; omega) h
  obtain ⟨h5, h⟩ := tx_app (by have := ha.ab; omega) (by have := hb.ab; omega) h
  obtain ⟨h6, h⟩ := be_app h (by have := ha.un; omega) (by have := hb.un; omega)
  obtain ⟨h7, h⟩ := un_app h6 ha.each hb.each h
  refine ⟨?_, h⟩
  obtain ⟨k, e, v, m, o, u⟩ := a
  obtain ⟨k', e', v', m', o', u'⟩ := b
  simp only at *
  subst h2 h3 h4 h5 h7
  rw [show k = k' by omega]
/-- the text of which a spot's sum is the sum -/
def pre (ns : List Nd) (l p : Nat) : List Nat := nodeB (nd ns (idx l p)) ++ rests ns l p
theorem sum_pre (ns : List Nd) (l p : Nat) : sumF ns l p = Sha.sum (pre ns l p) := sumF_eq ns l p
/-- are there two unlike texts with one sum, at the spots or below them? -/
def clashF (a b : List Nd) : Nat → Nat → Nat → Nat → Bool
  | 0, p, m, q => decide (sumF a 0 p = sumF b m q) && decide (pre a 0 p ≠ pre b m q)
  | l + 1, p, 0, q => decide (sumF a (l + 1) p = sumF b 0 q) && decide (pre a (l + 1) p ≠ pre b 0 q)
  | l + 1, p, m + 1, q => decide (sumF a (l + 1) p = sumF b (m + 1) q) && (decide (pre a (l + 1) p ≠ pre b (m + 1) q) || (clashF a b l (2 * p) m (2 * q) || clashF a b l (2 * p + 1) m (2 * q + 1)))
theorem blankB : nodeB blank = [0, 0, 0, 0, 0, 0, 0] := by decide
theorem Right.nds {ns : List Nd} {d : Nat} (h : Right ns d) (l p : Nat) (hl : l ≤ d) (hp : p < 2 ^ (d - l)) : (nd ns (idx l p) = blank) ∨ (l = 0 ∧ (nd ns (idx l p)).kind = 1) ∨ (0 < l ∧ (nd ns (idx l p)).kind = 2) := by
  have hh := h.each l p hl hp
  revert hh
  generalize nd ns (idx l p) = n
  intro hh
  cases hh with
  | bl e => exact .inl e
  | lf h0 k => exact .inr (.inl ⟨h0, k.kind⟩)
  | nod h0 k _ => exact .inr (.inr ⟨h0, k.kind⟩)
theorem nodeB_head (n : Nd) : ∃ t, nodeB n = (n.kind.toNat % 256) :: t := ⟨_, by unfold nodeB; rw [show Wr.be 1 n.kind.toNat = [n.kind.toNat % 256] by simp [Wr.be]]; rfl⟩
theorem rests_len (ns : List Nd) (l p : Nat) : (rests ns (l + 1) p).length = 64 := by rw [rests, List.length_append, sumF_len, sumF_len]
/-- what a leaf's text is, no node's is -/
theorem pre_level {a b : List Nd} {d e : Nat} (ha : Right a d) (hb : Right b e) {p m q : Nat} (hp : p < 2 ^ d) (hm : m + 1 ≤ e) (hq : q < 2 ^ (e - (m + 1))) : pre a 0 p ≠ pre b (m + 1) q := by
  intro h
  unfold pre at h
  rw [show rests a 0 p = [] from rfl, List.append_nil] at h
  rcases ha.nds 0 p (by omega) (by rw [Nat.sub_zero]; exact hp) with h1 | ⟨_, h1⟩ | ⟨h1, _⟩
  · rcases hb.nds (m + 1) q hm hq with h2 | ⟨h2, _⟩ | ⟨_, h2⟩
    · rw [h1, h2] at h
      have := congrArg List.length h
      rw [List.length_append, rests_len] at this
      omega
    · omega
    · rw [h1, blankB] at h
      obtain ⟨t, ht⟩ := nodeB_head (nd b (idx (m + 1) q))
      rw [ht, h2] at h
      injection h with h _
      revert h; decide
  · obtain ⟨s, hs⟩ := nodeB_head (nd a (idx 0 p))
    obtain ⟨t, ht⟩ := nodeB_head (nd b (idx (m + 1) q))
    rw [hs, ht, h1] at h
    rcases hb.nds (m + 1) q hm hq with h2 | ⟨h2, _⟩ | ⟨_, h2⟩
    · rw [h2] at h
      injection h with h _
      revert h; decide
    · omega
    · rw [h2] at h
      injection h with h _
      revert h; decide
  · omega
/-- alike from a spot on downwards -/
def Alike (a b : List Nd) : Nat → Nat → Nat → Prop
  | 0, p, q => nd a (idx 0 p) = nd b (idx 0 q)
  | l + 1, p, q => nd a (idx (l + 1) p) = nd b (idx (l + 1) q) ∧ Alike a b l (2 * p) (2 * q) ∧ Alike a b l (2 * p + 1) (2 * q + 1)
theorem bound_or {a b : List Nd} {d e : Nat} (ha : Right a d) (hb : Right b e) : ∀ l p m q, l ≤ d → p < 2 ^ (d - l) → m ≤ e → q < 2 ^ (e - m) → sumF a l p = sumF b m q → clashF a b l p m q = false → l = m ∧ Alike a b l p q
  | 0, p, 0, q, hl, hp, hm, hq, hs, hc => by
    unfold clashF at hc
    rw [decide_eq_true hs, Bool.true_and, decide_eq_false_iff_not, Classical.not_not] at hc
    exact ⟨rfl, (nodeB_app (ha.small 0 p hl hp) (hb.small 0 q hm hq) hc).1⟩
  | 0, p, m + 1, q, hl, hp, hm, hq, hs, hc => by
    unfold clashF at hc
    rw [decide_eq_true hs, Bool.true_and, decide_eq_false_iff_not, Classical.not_not] at hc
    exact absurd hc (pre_level ha hb (by rw [Nat.sub_zero] at hp; exact hp) hm hq)
  | l + 1, p, 0, q, hl, hp, hm, hq, hs, hc => by
    unfold clashF at hc
    rw [decide_eq_true hs, Bool.true_and, decide_eq_false_iff_not, Classical.not_not] at hc
    exact absurd hc.symm (pre_level hb ha (by rw [Nat.sub_zero] at hq; exact hq) hl hp)
  | l + 1, p, m + 1, q, hl, hp, hm, hq, hs, hc => by
    unfold clashF at hc
    rw [decide_eq_true hs, Bool.true_and, Bool.or_eq_false_iff, Bool.or_eq_false_iff, decide_eq_false_iff_not, Classical.not_not] at hc
    obtain ⟨h1, h2, h3⟩ := hc
    obtain ⟨p1, p2⟩ := half_lt hl hp
    obtain ⟨q1, q2⟩ := half_lt hm hq
    obtain ⟨e1, e2⟩ := nodeB_app (ha.small _ p hl hp) (hb.small _ q hm hq) h1
    rw [rests, rests] at e2
    obtain ⟨s1, s2⟩ := List.append_inj e2 (by rw [sumF_len, sumF_len])
    obtain ⟨f1, g1⟩ := bound_or ha hb l (2 * p) m (2 * q) (by omega) p1 (by omega) q1 s1 h2
    obtain ⟨_, g2⟩ := bound_or ha hb l (2 * p + 1) m (2 * q + 1) (by omega) p2 (by omega) q2 s2 h3
    subst f1
    exact ⟨rfl, e1, g1, g2⟩
theorem alike_at {a b : List Nd} : ∀ l p, Alike a b l p p → ∀ m q, m ≤ l → q / 2 ^ (l - m) = p → nd a (idx m q) = nd b (idx m q)
  | 0, p, h, m, q, hm, hq => by
    obtain rfl : m = 0 := by omega
    rw [Nat.sub_zero, Nat.pow_zero, Nat.div_one] at hq
    subst hq; exact h
  | l + 1, p, h, m, q, hm, hq => by
    by_cases e : m = l + 1
    · subst e
      rw [Nat.sub_self, Nat.pow_zero, Nat.div_one] at hq
      subst hq; exact h.1
    · rw [show l + 1 - m = (l - m) + 1 by omega, Nat.pow_succ, ← Nat.div_div_eq_div_mul] at hq
      rcases Nat.mod_two_eq_zero_or_one (q / 2 ^ (l - m)) with x | x
      · exact alike_at l (2 * p) h.2.1 m q (by omega) (by omega)
      · exact alike_at l (2 * p + 1) h.2.2 m q (by omega) (by omega)
theorem nd_ext {a b : List Nd} (hl : a.length = b.length) (h : ∀ i, i < a.length → nd a i = nd b i) : a = b := by
  apply List.ext_getElem hl
  intro i h1 h2
  have := h i h1
  unfold nd at this
  rw [List.getD_eq_getElem?_getD, List.getD_eq_getElem?_getD, List.getElem?_eq_getElem h1, List.getElem?_eq_getElem h2] at this
  exact this
/-- one tree, or a clash -/
theorem bound_trees {a b : List Nd} {d e : Nat} (ha : Right a d) (hb : Right b e) (hs : sumF a d 0 = sumF b e 0) (hc : clashF a b d 0 e 0 = false) : d = e ∧ a = b := by
  obtain ⟨rfl, h⟩ := bound_or ha hb d 0 e 0 (Nat.le_refl _) (by rw [Nat.sub_self]; decide) (Nat.le_refl _) (by rw [Nat.sub_self]; decide) hs hc
  refine ⟨rfl, nd_ext (by rw [ha.len, hb.len]) fun i hi => ?_⟩
  rw [ha.len] at hi
  obtain ⟨l, p, h1, h2, rfl⟩ := idx_any d i hi
  exact alike_at d 0 h l p h1 (Nat.div_eq_of_lt h2)
open Go.RowKit in
/-- what is known of memory while a spot's text is laid -/
structure PrS (d : Int) (A : Option Addr) (n c : Nat) (w W : World) : Prop where
  tr : TrB d A n c W w.heap.size
  bl : Below w.heap.size w W
open Go.RowKit in
theorem PrS.below {d : Int} {A : Option Addr} {n c : Nat} {w W W' : World} (x : PrS d A n c w W) (hb : Below W.heap.size W W') : PrS d A n c w W' := ⟨x.tr.below hb x.tr.lt, x.bl.trans (hb.mono x.bl.size)⟩
end Go.Proofs.YtakglldffpnlaaaGreatDoor.Rt
