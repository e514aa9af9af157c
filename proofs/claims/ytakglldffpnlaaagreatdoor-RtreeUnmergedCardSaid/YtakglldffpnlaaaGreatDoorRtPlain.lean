/- Plain mathematics of trees: nodes, which are right, leaves, what stands for a spot, sums, a leaf more and less; nothing of the program. -/
import Derived.Test.YtakglldffpnlaaaGreatDoorWrM1
import Derived.Test.YtakglldffpnlaaaGreatDoorShaM1
namespace Go.Proofs.YtakglldffpnlaaaGreatDoor.Rt
set_option linter.all false

structure Nd where
  kind : Int
  ek : List Nat
  vk : List Nat
  name : List Nat
  above : List Nat
  un : List Int
def blank : Nd := ⟨0, [], [], [], [], []⟩
def nd (ns : List Nd) (i : Nat) : Nd := ns.getD i blank
/-- the number of the node at a level and a place -/
def idx (l p : Nat) : Nat := 2 ^ l * (2 * p + 1) - 1

theorem idx_pos (l p : Nat) : 1 ≤ 2 ^ l * (2 * p + 1) := Nat.mul_pos (Nat.two_pow_pos l) (by omega)
theorem idx_succ (l p : Nat) : idx l p + 1 = 2 ^ l * (2 * p + 1) := by have := idx_pos l p; unfold idx; omega
theorem idx_zero (p : Nat) : idx 0 p = 2 * p := by unfold idx; simp
theorem idx_odd (l p : Nat) : idx (l + 1) p % 2 = 1 := by
  have h := idx_succ (l + 1) p
  rw [Nat.pow_succ, Nat.mul_comm (2 ^ l) 2, Nat.mul_assoc] at h
  omega
theorem idx_lt {l p d : Nat} (hl : l ≤ d) (hp : p < 2 ^ (d - l)) : idx l p < 2 ^ (d + 1) - 1 := by
  have h := idx_succ l p
  have h1 : 2 ^ l * (2 * p + 1) + 2 ^ l ≤ 2 ^ (d + 1) := by
    have e : 2 ^ l * (2 * p + 1) + 2 ^ l = 2 ^ l * (2 * (p + 1)) := by rw [show 2 * (p + 1) = (2 * p + 1) + 1 by omega, Nat.mul_add (2 ^ l) (2 * p + 1) 1, Nat.mul_one]
    rw [e]
    have e2 : 2 ^ (d + 1) = 2 ^ l * (2 * 2 ^ (d - l)) := by rw [Nat.mul_left_comm, ← Nat.pow_add, show l + (d - l) = d by omega, Nat.pow_succ]; omega
    rw [e2]
    exact Nat.mul_le_mul_left _ (by omega)
  have := Nat.two_pow_pos l
  omega
/-- each number below is one spot's -/
theorem idx_any (d : Nat) : ∀ i, i < 2 ^ (d + 1) - 1 → ∃ l p, l ≤ d ∧ p < 2 ^ (d - l) ∧ idx l p = i := by
  induction d with
  | zero => intro i h; exact ⟨0, 0, by omega, by decide, by simp at h; subst h; rfl⟩
  | succ d ih =>
    intro i h
    rcases Nat.mod_two_eq_zero_or_one i with e | e
    · refine ⟨0, i / 2, by omega, ?_, by rw [idx_zero]; omega⟩
      rw [Nat.sub_zero]
      have : 2 ^ (d + 1 + 1) = 2 * 2 ^ (d + 1) := by rw [Nat.pow_succ]; omega
      omega
    · obtain ⟨l, p, h1, h2, h3⟩ := ih (i / 2) (by have : 2 ^ (d + 1 + 1) = 2 * 2 ^ (d + 1) := by { rw [Nat.pow_succ]; omega }; omega)
      refine ⟨l + 1, p, by omega, by rw [show d + 1 - (l + 1) = d - l by omega]; exact h2, ?_⟩
      have e1 := idx_succ l p
      have e2 := idx_succ (l + 1) p
      rw [Nat.pow_succ, Nat.mul_comm (2 ^ l) 2, Nat.mul_assoc] at e2
      omega
theorem idx_inj : ∀ {l m p q : Nat}, idx l p = idx m q → l = m ∧ p = q
  | 0, 0, p, q, h => by rw [idx_zero, idx_zero] at h; exact ⟨rfl, by omega⟩
  | 0, m + 1, p, q, h => by have := idx_odd m q; rw [idx_zero] at h; omega
  | l + 1, 0, p, q, h => by have := idx_odd l p; rw [idx_zero] at h; omega
  | l + 1, m + 1, p, q, h => by
    have e1 := idx_succ (l + 1) p
    have e2 := idx_succ (m + 1) q
    have f1 := idx_succ l p
    have f2 := idx_succ m q
    rw [Nat.pow_succ, Nat.mul_comm (2 ^ _) 2, Nat.mul_assoc] at e1 e2
    obtain ⟨h1, h2⟩ := idx_inj (l := l) (m := m) (p := p) (q := q) (by omega)
    exact ⟨by omega, h2⟩

/-! ### which are right -/
structure LeafR (n : Nd) : Prop where
  kind : n.kind = 1
  ek : n.ek.length = 1184
  vk : n.vk.length = 1952
  nm : 1 ≤ n.name.length ∧ n.name.length ≤ 16
  above : n.above.length = 0 ∨ n.above.length = 32
  un : n.un = []
structure NodeR (n : Nd) : Prop where
  kind : n.kind = 2
  ek : n.ek.length = 1184
  vk : n.vk = []
  nm : n.name = []
  above : n.above.length = 0 ∨ n.above.length = 32
/-- numbers that rise, each above a number -/
def Rise : Int → List Int → Prop
  | _, [] => True
  | a, x :: l => a < x ∧ Rise x l
/-- the leaf j is there -/
def There (ns : List Nd) (d : Nat) (j : Int) : Prop := 0 ≤ j ∧ j < 2 ^ d ∧ (nd ns (2 * j.toNat)).kind ≠ 0
/-- below the spot -/
def Under (l p : Nat) (j : Int) : Prop := 0 ≤ j ∧ j / 2 ^ l = p
structure UnR (ns : List Nd) (d l p : Nat) (un : List Int) : Prop where
  rise : Rise (-1) un
  each : ∀ j ∈ un, Under l p j ∧ There ns d j
inductive NdR (ns : List Nd) (d l p : Nat) (n : Nd) : Prop where
  | bl : n = blank → NdR ns d l p n
  | lf : l = 0 → LeafR n → NdR ns d l p n
  | nod : 0 < l → NodeR n → UnR ns d l p n.un → NdR ns d l p n
structure Right (ns : List Nd) (d : Nat) : Prop where
  deep : d ≤ 6
  len : ns.length = 2 ^ (d + 1) - 1
  each : ∀ l p, l ≤ d → p < 2 ^ (d - l) → NdR ns d l p (nd ns (idx l p))
def RightT (k : Int) (ns : List Nd) : Prop := ∃ d : Nat, k = d ∧ Right ns d

theorem LeafR.nb {n : Nd} (h : LeafR n) : n.kind ≠ 0 := by rw [h.kind]; decide
theorem NodeR.nb {n : Nd} (h : NodeR n) : n.kind ≠ 0 := by rw [h.kind]; decide
theorem NdR.zero {ns : List Nd} {d l p : Nat} {n : Nd} (h : NdR ns d l p n) (hk : n.kind = 0) : n = blank := by
  cases h with
  | bl h => exact h
  | lf _ h => exact absurd hk h.nb
  | nod _ h _ => exact absurd hk h.nb
theorem Right.some {ns : List Nd} {d : Nat} (h : Right ns d) (l p : Nat) (hl : l ≤ d) (hp : p < 2 ^ (d - l)) : ns[idx l p]? = some (nd ns (idx l p)) := by
  have : idx l p < ns.length := by rw [h.len]; exact idx_lt hl hp
  unfold nd
  rw [List.getD_eq_getElem?_getD, List.getElem?_eq_getElem this]; rfl
theorem Right.there {ns : List Nd} {d : Nat} (h : Right ns d) {j : Int} (hj : There ns d j) : LeafR (nd ns (2 * j.toNat)) := by
  obtain ⟨h0, h1, h2⟩ := hj
  have hlt : j.toNat < 2 ^ (d - 0) := by
    rw [Nat.sub_zero]
    have e : ((2 ^ d : Nat) : Int) = (2 : Int) ^ d := by simp
    omega
  have hh := h.each 0 j.toNat (by omega) hlt
  rw [idx_zero] at hh
  cases hh with
  | bl e => rw [e] at h2; exact absurd rfl h2
  | lf _ h => exact h
  | nod h0 _ _ => omega

/-! ### leaves -/
def leavesTo (ns : List Nd) : Nat → List Int
  | 0 => []
  | k + 1 => leavesTo ns k ++ if (nd ns (2 * k)).kind = 0 then [] else [(k : Int)]
def leavesF (ns : List Nd) (d : Nat) : List Int := leavesTo ns (2 ^ d)

/-! ### what stands for a spot -/
def knownF (i : Nat) (n : Nd) : List Int := (i : Int) :: n.un.map (2 * ·)
def resF (ns : List Nd) : Nat → Nat → List Int
  | 0, p => if (nd ns (idx 0 p)).kind = 0 then [] else knownF (idx 0 p) (nd ns (idx 0 p))
  | l + 1, p => if (nd ns (idx (l + 1) p)).kind = 0 then resF ns l (2 * p) ++ resF ns l (2 * p + 1) else knownF (idx (l + 1) p) (nd ns (idx (l + 1) p))

/-! ### sums -/
def unB (un : List Int) : List Nat := (un.map fun j => Wr.be 2 j.toNat).flatten
def nodeB (n : Nd) : List Nat := Wr.be 1 n.kind.toNat ++ (Wr.txB n.ek ++ (Wr.txB n.vk ++ (Wr.txB n.name ++ (Wr.txB n.above ++ (Wr.be 2 n.un.length ++ unB n.un)))))
def sumF (ns : List Nd) : Nat → Nat → List Nat
  | 0, p => Sha.sum (nodeB (nd ns (idx 0 p)))
  | l + 1, p => Sha.sum (nodeB (nd ns (idx (l + 1) p)) ++ (sumF ns l (2 * p) ++ sumF ns l (2 * p + 1)))
end Go.Proofs.YtakglldffpnlaaaGreatDoor.Rt
