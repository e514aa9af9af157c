/- Plain: a leaf added, and removed again; a leaf renewed. RtreeAdded: the walk. Written by tools/mk_rtadded.py. -/
import Derived.Test.YtakglldffpnlaaaGreatDoorRtWalkX
import Derived.Test.YtakglldffpnlaaaGreatDoorRtM2
import Derived.Test.YtakglldffpnlaaaGreatDoorRtLawA
import Derived.Test.YtakglldffpnlaaaGreatDoorRtRefT
import Derived.Test.YtakglldffpnlaaaGreatDoorRtSame
import Derived.Test.YtakglldffpnlaaaGreatDoorRtWalkS
namespace Go.Proofs.YtakglldffpnlaaaGreatDoor.Rt
set_option linter.all false

theorem there_nat {ns : List Nd} {d : Nat} {j : Nat} : There ns d (j : Int) ↔ j < 2 ^ d ∧ (nd ns (2 * j)).kind ≠ 0 := by
  unfold There
  rw [pow_eq, Int.toNat_natCast]
  constructor
  · rintro ⟨_, h1, h2⟩; exact ⟨by omega, h2⟩
  · rintro ⟨h1, h2⟩; exact ⟨by omega, by omega, h2⟩
theorem rem_right {ns : List Nd} {d j : Nat} (h : Right ns d) (hj : j < 2 ^ d) : Right (remF ns d j) (remD ns d j) := cut_right (ren_right h hj (.inl rfl))
/-- what is removed again leaves the leaves that were -/
theorem added_leaves {ns : List Nd} {d : Nat} (h : Right ns d) {leaf : Nd} (hf : LeafR leaf) (h6 : addD ns d ≤ 6) : leavesF (remF (addF ns d leaf) (addD ns d) (firstB ns d)) (remD (addF ns d leaf) (addD ns d) (firstB ns d)) = leavesF ns d := by
  have hr := add_right h hf h6
  obtain ⟨a1, a2, a3⟩ := addD_le (ns := ns) (d := d)
  unfold remF remD
  rw [cut_leaves (ren_right hr a3 (.inl rfl)), ← leavesF_up h a1]
  refine leavesTo_congr _ fun j hj => ?_
  rw [ren_leaf hr (firstB ns d) blank a3 j hj]
  by_cases e : j = firstB ns d
  · subst e
    rw [if_pos rfl]
    exact ⟨fun _ => first_blank h, fun _ => rfl⟩
  · rw [if_neg e, addF_leaf h leaf j hj, if_neg e]
theorem added_same {ns : List Nd} {d : Nat} (h : Right ns d) {leaf : Nd} (hf : LeafR leaf) (h6 : addD ns d ≤ 6) (j : Nat) (hj : There ns d (j : Int)) :
    j ≠ firstB ns d ∧ 2 * j < (addF ns d leaf).length ∧ 2 * j < ns.length ∧ 2 * j < (remF (addF ns d leaf) (addD ns d) (firstB ns d)).length ∧ nd (addF ns d leaf) (2 * j) = nd ns (2 * j) ∧ nd (remF (addF ns d leaf) (addD ns d) (firstB ns d)) (2 * j) = nd ns (2 * j) := by
  have hr := add_right h hf h6
  obtain ⟨a1, a2, a3⟩ := addD_le (ns := ns) (d := d)
  have hj' := there_nat.1 hj
  have hne : j ≠ firstB ns d := fun e => hj'.2 (by rw [e]; exact first_blank h)
  have hjd : j < 2 ^ addD ns d := Nat.lt_of_lt_of_le hj'.1 (Nat.pow_le_pow_right (by decide) a1)
  have e1 : 2 ^ (addD ns d + 1) = 2 * 2 ^ addD ns d := by rw [Nat.pow_succ]; omega
  have e2 : 2 ^ (d + 1) = 2 * 2 ^ d := by rw [Nat.pow_succ]; omega
  have hthere : There (remF (addF ns d leaf) (addD ns d) (firstB ns d)) (remD (addF ns d leaf) (addD ns d) (firstB ns d)) (j : Int) := by
    rw [← mem_leavesF, added_leaves h hf h6, mem_leavesF]; exact hj
  have hrr := rem_right hr a3
  have hlt : 2 * j < (remF (addF ns d leaf) (addD ns d) (firstB ns d)).length := by
    have := (there_nat.1 hthere).1
    rw [hrr.len, Nat.pow_succ]; omega
  have hnd : nd (addF ns d leaf) (2 * j) = nd ns (2 * j) := by rw [addF_leaf h leaf j hjd, if_neg hne]
  refine ⟨hne, by rw [addF_len h]; omega, by rw [h.len]; have := hj'.1; omega, hlt, hnd, ?_⟩
  unfold remF at hlt ⊢
  rw [cut_nd _ _ _ hlt, ren_leaf hr _ _ a3 j hjd, if_neg hne, hnd]
theorem renew_leaves {ns : List Nd} {d : Nat} (h : Right ns d) {leaf : Nd} (hf : LeafR leaf) (j : Nat) (hj : There ns d (j : Int)) : leavesF (renF ns d j leaf) d = leavesF ns d := by
  have hj' := there_nat.1 hj
  unfold leavesF
  refine leavesTo_congr _ fun i hi => ?_
  rw [ren_leaf h j leaf hj'.1 i hi]
  by_cases e : i = j
  · subst e
    rw [if_pos rfl]
    exact ⟨fun h => absurd h hf.nb, fun h => absurd h hj'.2⟩
  · rw [if_neg e]
theorem leavesTo_full {ns : List Nd} : ∀ k, (∀ j, j < k → (nd ns (2 * j)).kind ≠ 0) → (leavesTo ns k).length = k
  | 0, _ => rfl
  | k + 1, h => by rw [leavesTo, List.length_append, leavesTo_full k fun j hj => h j (by omega), if_neg (h k (by omega))]; rfl
theorem many_leaves {ns : List Nd} {d : Nat} (h : Right ns d) (h6 : ¬ addD ns d ≤ 6) : addD ns d = 7 ∧ (leavesF ns d).length = 64 := by
  have hd := h.deep
  obtain ⟨a1, a2, a3⟩ := addD_le (ns := ns) (d := d)
  obtain rfl : d = 6 := by omega
  have h7 : addD ns 6 = 7 := by omega
  refine ⟨h7, ?_⟩
  obtain ⟨b1, b2, b3⟩ := firstB_is ns 6
  have hf : firstB ns 6 = 2 ^ 6 := by
    unfold addD at h7
    split at h7
    · assumption
    · omega
  unfold leavesF
  exact leavesTo_full _ fun j hj => b2 j (by omega)
end Go.Proofs.YtakglldffpnlaaaGreatDoor.Rt

namespace Go.Proofs.YtakglldffpnlaaaGreatDoor.Rt
set_option linter.all false
set_option pp.maxSteps 200000
set_option pp.deepTerms true
open Go.RowKit
open Wr (Txt Any New)

end Go.Proofs.YtakglldffpnlaaaGreatDoor.Rt
