/- Memory: a block in which the 25 words of a state lie from an offset on. -/
import Derived.Test.YtdkhiooiakdecaaDoorRKecPlain
import Derived.WalkKit
import Derived.Deep.OwnRows
import Derived.Deep.Draws
import Derived.Maps.AppendAt
import Derived.Deep.AppendLies
namespace Go.Proofs.YtdkhiooiakdecaaDoorR.Kec
set_option linter.all false
open Go.RowKit

def put (f : Nat → Value) (o : Nat) (ws : List Nat) : Nat → Value := fun j => if o ≤ j ∧ j < o + 25 then .int .u64 (gt ws (j - o) : Nat) else f j
theorem put_in (f : Nat → Value) (o : Nat) (ws : List Nat) (i : Nat) (h : i < 25) : put f o ws (o + i) = .int .u64 (gt ws i : Nat) := by
  unfold put
  rw [if_pos ⟨by omega, by omega⟩]; simp
theorem put_out (f : Nat → Value) (o : Nat) (ws : List Nat) (j : Nat) (h : j < o ∨ o + 25 ≤ j) : put f o ws j = f j := by
  unfold put
  rw [if_neg (by omega)]
/-- block b is a row of n cells whose words from o on are ws -/
def St (w : World) (b : Nat) (t : TypeId) (n : Nat) (f : Nat → Value) (o : Nat) (ws : List Nat) : Prop := o + 25 ≤ n ∧ w.rowIs b t n (put f o ws)
section
variable {w w' : World} {b n o : Nat} {t : TypeId} {f : Nat → Value} {ws : List Nat}
theorem St.cell (h : St w b t n f o ws) (i : Nat) (hi : i < 25) : w.cell? ⟨b, o + i, none⟩ = some (.int .u64 (gt ws i : Nat)) := by
  have h1 := h.1
  rw [h.2.cell (by omega), put_in _ _ _ _ hi]
theorem St.frozen (h : St w b t n f o ws) (i : Nat) : w.frozen? ⟨b, i, none⟩ = false := h.2.frozen i
theorem St.lt (h : St w b t n f o ws) : b < w.heap.size := h.2.lt
theorem St.set (h : St w b t n f o ws) (hl : ws.length = 25) (i v : Nat) (hi : i < 25) : St (w.setCell ⟨b, o + i, none⟩ (.int .u64 (v : Nat))) b t n f o (ws.set i v) := by
  refine ⟨h.1, (h.2.set (o + i) (.int .u64 (v : Nat))).congr fun j _ => ?_⟩
  unfold put
  by_cases e : j = o + i
  · subst e
    rw [if_pos rfl, if_pos ⟨by omega, by omega⟩, gt_set _ _ _ _ (by omega)]; simp
  · rw [if_neg e]
    by_cases hj : o ≤ j ∧ j < o + 25
    · rw [if_pos hj, if_pos hj, gt_set _ _ _ _ (by omega), if_neg (by omega)]
    · rw [if_neg hj, if_neg hj]
theorem St.drew (h : St w b t n f o ws) : St w.drew b t n f o ws := h
theorem St.drewN (h : St w b t n f o ws) (k : Nat) : St (w.drewN k) b t n f o ws := h
theorem St.alloc (h : St w b t n f o ws) (x : Obj) : St (w.alloc x) b t n f o ws := ⟨h.1, h.2.alloc x⟩
theorem St.far (h : St w b t n f o ws) {a : Addr} (ha : b ≠ a.block) (v : Value) : St (w.setCell a v) b t n f o ws := ⟨h.1, h.2.setOther ha v⟩
theorem St.of_block (h : St w b t n f o ws) (e : w'.heap[b]? = w.heap[b]?) : St w' b t n f o ws := ⟨h.1, h.2.of_block e⟩
theorem St.grown {row : Option Nat} (h : St w b t n f o ws) (hg : w.grownBy w' row) (hne : some b ≠ row) : St w' b t n f o ws := h.of_block (hg.block b h.lt hne)
end

theorem rowIs_drewN {w : World} {b : Nat} {t : TypeId} {n : Nat} {f : Nat → Value} (h : w.rowIs b t n f) (k : Nat) : (w.drewN k).rowIs b t n f := h
/-- only block b, and what is new, has turned -/
theorem only_drew {a w : World} {row : Option Nat} (h : a.grownBy w row) : a.grownBy w.drew row := ⟨h.os, h.tape, h.output, h.size, h.block⟩
theorem only_drewN {a w : World} {row : Option Nat} (h : a.grownBy w row) (k : Nat) : a.grownBy (w.drewN k) row := ⟨h.os, h.tape, h.output, h.size, h.block⟩
theorem only_alloc {a w : World} {row : Option Nat} (h : a.grownBy w row) (x : Obj) : a.grownBy (w.alloc x) row :=
  ⟨h.os, h.tape, h.output, Nat.le_trans h.size (by simp), fun i hi hne => (Below.heap_alloc w x i (Nat.lt_of_lt_of_le hi h.size)).trans (h.block i hi hne)⟩
theorem only_set {a w : World} {g : Nat} (h : a.grownBy w (some g)) {p : Addr} (hp : p.block = g ∨ a.heap.size ≤ p.block) (u : Value) : a.grownBy (w.setCell p u) (some g) :=
  ⟨h.os, h.tape, h.output, by simpa [World.setCell] using h.size, fun i hi hne => (Below.heap_setCell w p u i (by
    rintro rfl
    rcases hp with hp | hp
    · exact hne (by rw [hp])
    · omega)).trans (h.block i hi hne)⟩
/-- what follows turns block g' alone, which is new since a, or g -/
theorem only_then {a w c : World} {g g' : Nat} (h : a.grownBy w (some g)) (k : w.grownBy c (some g')) (hg : g' = g ∨ a.heap.size ≤ g') : a.grownBy c (some g) :=
  ⟨k.os.trans h.os, k.tape.trans h.tape, k.output.trans h.output, Nat.le_trans h.size k.size, fun i hi hne =>
    (k.block i (Nat.lt_of_lt_of_le hi h.size) (by
      intro e
      injection e with e
      rcases hg with hg | hg
      · exact hne (by rw [e, hg])
      · omega)).trans (h.block i hi hne)⟩

theorem u64_not (x : Nat) (hx : x < 18446744073709551616) : bits .xor .u64 (18446744073709551615 : Int) (x : Int) = (notw x : Nat) := by
  have h : (18446744073709551615 : Int) = ((18446744073709551615 : Nat) : Int) := rfl
  rw [h, u64_xor_nat _ _ (by omega) hx]
  unfold notw
  have e : 18446744073709551615 ^^^ x = 18446744073709551615 - x := by
    apply Nat.eq_of_testBit_eq
    intro i
    have := Nat.testBit_two_pow_sub_succ (n := 64) (x := x) hx i
    rw [Nat.testBit_xor]
    have h2 : (18446744073709551615 : Nat).testBit i = decide (i < 64) := by
      have := Nat.testBit_two_pow_sub_one 64 i
      simpa using this
    rw [h2]
    have h3 : 18446744073709551615 - x = 2 ^ 64 - (x + 1) := by omega
    rw [h3, this]
    by_cases hi : i < 64
    · simp [hi]
    · have : x.testBit i = false := Nat.testBit_lt_two_pow (Nat.lt_of_lt_of_le hx (by
        have h64 : (18446744073709551616 : Nat) = 2 ^ 64 := rfl
        rw [h64]
        exact Nat.pow_le_pow_right (by omega) (by omega)))
      simp [hi, this]
  rw [e]

end Go.Proofs.YtdkhiooiakdecaaDoorR.Kec
