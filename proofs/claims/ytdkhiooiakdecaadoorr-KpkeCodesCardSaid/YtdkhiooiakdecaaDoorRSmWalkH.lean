/- Walks: level. Written by tools/mk_smlevel.py. -/
import Derived.Test.YtdkhiooiakdecaaDoorRSmWalkG
import Derived.Deep.RegionWith
namespace Go.Proofs.YtdkhiooiakdecaaDoorR.Sm
open Go.RowKit
set_option linter.all false

def partl (L f : Nat → F) (n s t : Nat) : Nat → Int := fun i => if i < s ∨ (s ≤ i ∧ i < s + t) ∨ (s + n ≤ i ∧ i < s + n + t) then nv (L i) else nv (f i)
theorem partl_low (L f : Nat → F) (n s t : Nat) (h : t < n) : partl L f n s t (s + t) = nv (f (s + t)) ∧ partl L f n s t (s + t + n) = nv (f (s + t + n)) := by
  unfold partl; exact ⟨by rw [if_neg (by omega)], by rw [if_neg (by omega)]⟩
theorem partl_succ {w : World} {g : Nat} {ty : TypeId} {L f : Nat → F} {n s t : Nat} (h : t < n) (hR : w.rowIs g ty 256 (ints (partl L f n s t))) {x y : F} (hx : L (s + t) = x) (hy : L (s + t + n) = y) :
    ((w.setCell ⟨g, s + t, none⟩ (.int .i64 (nv x))).setCell ⟨g, s + t + n, none⟩ (.int .i64 (nv y))).rowIs g ty 256 (ints (partl L f n s (t + 1))) :=
  row_is (row_set (row_set hR _ _) _ _) fun i _ => by
    unfold partl
    by_cases e1 : i = s + t + n
    · subst e1; rw [if_pos rfl, if_pos (by omega), hy]
    · rw [if_neg e1]
      by_cases e2 : i = s + t
      · subst e2; rw [if_pos rfl, if_pos (by omega), hx]
      · rw [if_neg e2]
        by_cases e3 : i < s ∨ (s ≤ i ∧ i < s + t) ∨ (s + n ≤ i ∧ i < s + n + t)
        · rw [if_pos e3, if_pos (by omega)]
        · rw [if_neg e3, if_neg (by omega)]
theorem partl_next (L f : Nat → F) (n s : Nat) : partl L f n s n = partl L f n (s + 2 * n) 0 := by
  funext i
  unfold partl
  by_cases e : i < s + 2 * n
  · rw [if_pos (by omega), if_pos (by omega)]
  · rw [if_neg (by omega), if_neg (by omega)]
theorem partl_zero (L f : Nat → F) (n : Nat) : partl L f n 0 0 = up f := by
  funext i; unfold partl up; rw [if_neg (by omega)]
theorem partl_all {w : World} {g : Nat} {ty : TypeId} {L f : Nat → F} {n : Nat} (hR : w.rowIs g ty 256 (ints (partl L f n 256 0))) : w.rowIs g ty 256 (ints (up L)) :=
  row_is hR fun i hi => by unfold partl up; rw [if_pos (by omega)]
theorem rowIs_drew' {w : World} {b : Nat} {t : TypeId} {n : Nat} {f : Nat → Value} (h : w.rowIs b t n f) : w.drew.rowIs b t n f := h
theorem only_drew {a w : World} {row : Option Nat} (h : a.grownBy w row) : a.grownBy w.drew row := ⟨h.os, h.tape, h.output, h.size, h.block⟩
theorem only_alloc {a w : World} {row : Option Nat} (h : a.grownBy w row) (x : Obj) : a.grownBy (w.alloc x) row :=
  ⟨h.os, h.tape, h.output, Nat.le_trans h.size (by simp), fun i hi hne => (Below.heap_alloc w x i (Nat.lt_of_lt_of_le hi h.size)).trans (h.block i hi hne)⟩
theorem only_set {a w : World} {g : Nat} (h : a.grownBy w (some g)) {p : Addr} (hp : p.block = g ∨ a.heap.size ≤ p.block) (u : Value) : a.grownBy (w.setCell p u) (some g) :=
  ⟨h.os, h.tape, h.output, by simpa [World.setCell] using h.size, fun i hi hne => (Below.heap_setCell w p u i (by
    rintro rfl
    rcases hp with hp | hp
    · exact hne (by rw [hp])
    · omega)).trans (h.block i hi hne)⟩
theorem only_setRow {a w : World} {g g' : Nat} (h : a.grownBy w (some g)) (hp : a.heap.size ≤ g') (cs : Array Value) : a.grownBy (w.setRow g' cs) (some g) :=
  ⟨h.os, h.tape, h.output, by simpa using h.size, fun i hi hne => (setRow_other w g' i cs (by omega)).trans (h.block i hi hne)⟩
theorem mul_room {b m n : Nat} (h : b < m) (e : 2 * n * m = 256) : b * (2 * n) + 2 * n ≤ 256 := by
  have h1 : (b + 1) * (2 * n) ≤ m * (2 * n) := Nat.mul_le_mul_right _ h
  rw [Nat.add_mul, Nat.one_mul, Nat.mul_comm m, e] at h1
  exact h1
theorem mul_end {m n : Nat} (e : 2 * n * m = 256) : m * (2 * n) = 256 := by rw [Nat.mul_comm]; exact e

end Go.Proofs.YtdkhiooiakdecaaDoorR.Sm
