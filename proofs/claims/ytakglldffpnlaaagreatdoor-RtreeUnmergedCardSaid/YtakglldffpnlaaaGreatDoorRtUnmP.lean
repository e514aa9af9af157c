/- What is above a leaf that was added, renewed or removed. -/
import Derived.Test.YtakglldffpnlaaaGreatDoorRtRefP
import Derived.Test.YtakglldffpnlaaaGreatDoorRtAddV
import Derived.Test.YtakglldffpnlaaaGreatDoorRtWalkX
import Derived.Test.YtakglldffpnlaaaGreatDoorRtWalkL
namespace Go.Proofs.YtakglldffpnlaaaGreatDoor.Rt
set_option linter.all false
open Go.RowKit
open Wr (Txt Any New)

/-- the node above a leaf that was added -/
theorem above_added {ns : List Nd} {d : Nat} (h : Right ns d) (leaf : Nd) (k : Nat) (hk : k < addD ns d) (hf : firstB ns d < 2 ^ addD ns d) :
    nd (addF ns d leaf) (idx (k + 1) (firstB ns d / 2 ^ (k + 1))) = if (nd ns (idx (k + 1) (firstB ns d / 2 ^ (k + 1)))).kind ≠ 0 then withU (nd ns (idx (k + 1) (firstB ns d / 2 ^ (k + 1)))) (firstB ns d) else nd ns (idx (k + 1) (firstB ns d / 2 ^ (k + 1))) := by
  have hp : firstB ns d / 2 ^ (k + 1) < 2 ^ (addD ns d - (k + 1)) := by
    rw [Nat.div_lt_iff_lt_mul (Nat.two_pow_pos _), ← Nat.pow_add, show addD ns d - (k + 1) + (k + 1) = addD ns d by omega]
    exact hf
  rw [addF_node h leaf k _ (by omega) hp]
  by_cases hz : (nd ns (idx (k + 1) (firstB ns d / 2 ^ (k + 1)))).kind ≠ 0
  · rw [if_pos ⟨rfl, hz⟩, if_pos hz]
  · rw [if_neg (fun e => hz e.2), if_neg hz]
theorem above_lt {f d k : Nat} (hk : k < d) (hf : f < 2 ^ d) : idx (k + 1) (f / 2 ^ (k + 1)) < 2 ^ (d + 1) - 1 := by
  refine idx_lt (by omega) ?_
  rw [Nat.div_lt_iff_lt_mul (Nat.two_pow_pos _), ← Nat.pow_add, show d - (k + 1) + (k + 1) = d by omega]
  exact hf
/-- a blank node knows nobody -/
theorem blank_of_kind {ns : List Nd} {d : Nat} (h : Right ns d) (i : Nat) (hz : (nd ns i).kind = 0) : nd ns i = blank := by
  rcases Nat.lt_or_ge i ns.length with hi | hi
  · rw [h.len] at hi
    obtain ⟨l, p, hl, hp, rfl⟩ := idx_any d i hi
    have := h.each l p hl hp
    cases this with
    | bl e => exact e
    | lf _ k => rw [k.kind] at hz; cases hz
    | nod _ k u => rw [k.kind] at hz; cases hz
  · exact nd_ge _ _ hi
/-- what is above a leaf that was added: unmerged in just what is not blank; all else stays -/
theorem added_above {ns : List Nd} {d : Nat} (h : Right ns d) (leaf : Nd) (k : Nat) (hk : k < addD ns d) (hf : firstB ns d < 2 ^ addD ns d) (m : Nat) (hm : idx (k + 1) (firstB ns d / 2 ^ (k + 1)) = m) :
    (nd (addF ns d leaf) m).kind = (nd ns m).kind ∧ (nd (addF ns d leaf) m).ek = (nd ns m).ek ∧ ((firstB ns d : Int) ∈ (nd (addF ns d leaf) m).un ↔ (nd ns m).kind ≠ 0) := by
  have e := above_added h leaf k hk hf
  rw [hm] at e
  by_cases hz : (nd ns m).kind = 0
  · rw [if_neg (by simp [hz])] at e
    rw [e]
    refine ⟨rfl, rfl, ?_⟩
    rw [blank_of_kind h m hz]
    simp [blank]
  · rw [if_pos hz] at e
    rw [e]
    exact ⟨rfl, rfl, ⟨fun _ => hz, fun _ => by show _ ∈ ins _ _; exact mem_ins.2 (.inl rfl)⟩⟩
/-- what is above a leaf that was renewed, or removed, is blank -/
theorem ren_above {ns : List Nd} {d : Nat} (h : Right ns d) (j k : Nat) (x : Nd) (hj : j < 2 ^ d) (hk : k < d) (m : Nat) (hm : idx (k + 1) (j / 2 ^ (k + 1)) = m) : (nd (renF ns d j x) m).kind = 0 := by
  have hp : j / 2 ^ (k + 1) < 2 ^ (d - (k + 1)) := by
    rw [Nat.div_lt_iff_lt_mul (Nat.two_pow_pos _), ← Nat.pow_add, show d - (k + 1) + (k + 1) = d by omega]
    exact hj
  have e := ren_node h j x hj k _ (by omega) hp
  rw [if_pos rfl, hm] at e
  rw [e]; rfl
theorem rem_above {ns : List Nd} {d : Nat} (h : Right ns d) (j k : Nat) (hj : j < 2 ^ d) (hk : k < d) (m : Nat) (hm : idx (k + 1) (j / 2 ^ (k + 1)) = m) (hl : m < (remF ns d j).length) : (nd (remF ns d j) m).kind = 0 := by
  unfold remF at hl ⊢
  rw [cut_nd _ _ _ hl]
  exact ren_above h j k blank hj hk m hm
/-- a path's cell -/
theorem own_cpx {w w' : World} {base f d c : Nat} {A : Option Addr} (h : w.ownsRow base 48 1 (.slice A d c) d (Sp.pathL f d)) (hb : Below w.heap.size w w') (k : Nat) (hk : k < d) :
    ∃ gp, A = some ⟨gp, 0, none⟩ ∧ w'.cell? ⟨gp, k, none⟩ = some (.complex .f64 (Fl.fl (k + 1)) (Fl.fl (f / 2 ^ (k + 1)))) := by
  have h' := Sp.row_below h hb
  rcases h.2 with ⟨e, _⟩ | ⟨g, c', cur, e, _⟩
  · injection e with _ e2 _; omega
  · injection e with e1 _ e3
    subst e1 e3
    refine ⟨g, rfl, ?_⟩
    have h1 := h'.cells (g := g) rfl k (.complex .f64 (Fl.fl (k + 1)) (Fl.fl (f / 2 ^ (k + 1)))) (by simp [Sp.pathL, hk])
    have ha : (⟨g, 0, none⟩ : Addr).add k = ⟨g, k, none⟩ := by unfold Addr.add; split <;> simp_all
    rwa [ha] at h1
theorem take_mem (l : List Int) (j : Nat) (x : Int) (hj : j < l.length) : x ∈ l.take (j + 1) ↔ x ∈ l.take j ∨ gi l j = x := by
  rw [List.take_succ, List.getElem?_eq_getElem hj]
  have : gi l j = l[j] := by unfold gi; rw [List.getD_eq_getElem?_getD, List.getElem?_eq_getElem hj]; rfl
  rw [this]
  simp only [Option.toList, List.mem_append, List.mem_singleton]
  exact ⟨fun h => h.imp id Eq.symm, fun h => h.imp id Eq.symm⟩
theorem un_small {ns : List Nd} {d : Nat} (h : Right ns d) (m : Nat) : (nd ns m).un.length ≤ 100 := by
  rcases Nat.lt_or_ge m ns.length with hi | hi
  · rw [h.len] at hi
    obtain ⟨l, p, hl, hp, rfl⟩ := idx_any d m hi
    exact (h.small l p hl hp).un
  · rw [nd_ge _ _ hi]; simp [blank]
end Go.Proofs.YtakglldffpnlaaaGreatDoor.Rt
