/- Plain: a leaf more, another one, and less. -/
import Derived.Test.YtakglldffpnlaaaGreatDoorRtStandsP
namespace Go.Proofs.YtakglldffpnlaaaGreatDoor.Rt
set_option linter.all false

theorem nd_set (ns : List Nd) (i j : Nat) (n : Nd) (h : i < ns.length) : nd (ns.set i n) j = if j = i then n else nd ns j := by
  unfold nd
  rw [List.getD_eq_getElem?_getD, List.getD_eq_getElem?_getD, List.getElem?_set]
  by_cases e : i = j
  · subst e; simp [h]
  · rw [if_neg e, if_neg (fun x => e x.symm)]
theorem nd_append (ns ms : List Nd) (j : Nat) : nd (ns ++ ms) j = if j < ns.length then nd ns j else nd ms (j - ns.length) := by
  unfold nd
  rw [List.getD_eq_getElem?_getD, List.getElem?_append]
  split
  · rw [List.getD_eq_getElem?_getD]
  · rw [List.getD_eq_getElem?_getD]
theorem nd_blank (k j : Nat) : nd (List.replicate k blank) j = blank := by
  unfold nd
  rw [List.getD_eq_getElem?_getD, List.getElem?_replicate]
  split <;> rfl
theorem nd_ge (ns : List Nd) (j : Nat) (h : ns.length ≤ j) : nd ns j = blank := by
  unfold nd
  rw [List.getD_eq_getElem?_getD, List.getElem?_eq_none h]; rfl
/-- as many blanks behind as a tree so deep has nodes -/
def grow (ns : List Nd) (e : Nat) : List Nd := ns ++ List.replicate (2 ^ (e + 1) - 1 - ns.length) blank
theorem grow_len (ns : List Nd) (e : Nat) (h : ns.length ≤ 2 ^ (e + 1) - 1) : (grow ns e).length = 2 ^ (e + 1) - 1 := by unfold grow; rw [List.length_append, List.length_replicate]; omega
theorem nd_grow (ns : List Nd) (e j : Nat) : nd (grow ns e) j = nd ns j := by
  unfold grow
  rw [nd_append]
  split
  · rfl
  · rw [nd_blank, nd_ge _ _ (by omega)]
/-- a number more in a rising row -/
def ins (j : Int) : List Int → List Int
  | [] => [j]
  | x :: l => if x < j then x :: ins j l else j :: x :: l
def withU (n : Nd) (j : Int) : Nd := { n with un := ins j n.un }
/-- the nodes above a leaf, from below, so many: the leaf is Unmerged in them, if they are not blank -/
def upUn (j : Nat) (ns : List Nd) : Nat → List Nd
  | 0 => ns
  | k + 1 => let ms := upUn j ns k; let a := idx (k + 1) (j / 2 ^ (k + 1)); if (nd ms a).kind = 0 then ms else ms.set a (withU (nd ms a) j)
/-- .. they are blank -/
def upBl (j : Nat) (ns : List Nd) : Nat → List Nd
  | 0 => ns
  | k + 1 => (upBl j ns k).set (idx (k + 1) (j / 2 ^ (k + 1))) blank
theorem upUn_len (j : Nat) (ns : List Nd) : ∀ k, (upUn j ns k).length = ns.length
  | 0 => rfl
  | k + 1 => by
    unfold upUn
    dsimp only
    split
    · exact upUn_len j ns k
    · rw [List.length_set]; exact upUn_len j ns k
theorem upBl_len (j : Nat) (ns : List Nd) : ∀ k, (upBl j ns k).length = ns.length
  | 0 => rfl
  | k + 1 => by unfold upBl; rw [List.length_set]; exact upBl_len j ns k
/-- the first leaf that is not there -/
def firstTo (ns : List Nd) : Nat → Nat → Nat
  | 0, j => j
  | f + 1, j => if (nd ns (2 * j)).kind = 0 then j else firstTo ns f (j + 1)
def firstB (ns : List Nd) (d : Nat) : Nat := firstTo ns (2 ^ d) 0
theorem firstTo_is (ns : List Nd) : ∀ f j, j ≤ firstTo ns f j ∧ firstTo ns f j ≤ j + f ∧ (∀ i, j ≤ i → i < firstTo ns f j → (nd ns (2 * i)).kind ≠ 0) ∧ (firstTo ns f j < j + f → (nd ns (2 * firstTo ns f j)).kind = 0)
  | 0, j => ⟨Nat.le_refl _, Nat.le_refl _, fun i h1 h2 => by simp [firstTo] at h2; omega, fun h => by simp [firstTo] at h⟩
  | f + 1, j => by
    unfold firstTo
    split
    · rename_i h
      exact ⟨Nat.le_refl _, by omega, fun i h1 h2 => by omega, fun _ => h⟩
    · rename_i h
      obtain ⟨h1, h2, h3, h4⟩ := firstTo_is ns f (j + 1)
      refine ⟨by omega, by omega, fun i hi1 hi2 => ?_, fun hh => h4 (by omega)⟩
      by_cases e : i = j
      · subst e; exact h
      · exact h3 i (by omega) hi2
theorem firstB_is (ns : List Nd) (d : Nat) : firstB ns d ≤ 2 ^ d ∧ (∀ i, i < firstB ns d → (nd ns (2 * i)).kind ≠ 0) ∧ (firstB ns d < 2 ^ d → (nd ns (2 * firstB ns d)).kind = 0) := by
  obtain ⟨_, h2, h3, h4⟩ := firstTo_is ns (2 ^ d) 0
  unfold firstB
  exact ⟨by omega, fun i hi => h3 i (by omega) hi, fun h => h4 (by omega)⟩
/-- what Add tells -/
def addD (ns : List Nd) (d : Nat) : Nat := if firstB ns d = 2 ^ d then d + 1 else d
def addF (ns : List Nd) (d : Nat) (leaf : Nd) : List Nd := upUn (firstB ns d) ((grow ns (addD ns d)).set (2 * firstB ns d) leaf) (addD ns d)
end Go.Proofs.YtakglldffpnlaaaGreatDoor.Rt
