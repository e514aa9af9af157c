/- Walks: the iterators of the powers, level. -/
import Derived.Test.YtaihlmedeebimaaLgWalkF
namespace Go.Proofs.Ytaihlmedeebimaa.Lg
open Go.RowKit
set_option linter.all false

theorem step_of {P : Program} {ops : Array Oper} {o : Oper} {a : Act} {w : World} {K : Act → World → Prop} {Q : Exit → Act → World → Prop} {E : Prop} {ts : Array Value} (hw : Region.wanted o (yielded ops ts) = true)
    (h : Oper.wp P o a w K Q) : if Region.wanted o (yielded ops ts) = true then Oper.wp P o a w K Q else E := by rw [if_pos hw]; exact h
theorem below_of_drew {w w' : World} (h : Below w.drew.heap.size w.drew w') : Below w.heap.size w w' := ⟨h.os, h.tape, h.output, h.size, h.block⟩
/-- a region that is shown not to panic; the post laid open, so that its limb at a panic is seen at once -/
theorem region_calm {P : Program} {id : Nat} {ops : Array Oper} {b : Bool} {Q : Exit → Act → World → Prop} {a : Act} {w : World}
    (h : (Code.region id ops b).wp P (fun e a w => match e with | .panic _ => False | e => Q e a w) a w) : (Code.region id ops b).wp P Q a w :=
  Code.wp_mono (fun e a w h => by cases e <;> first | exact h | exact (h : False).elim) h

def zvi : Nat → Int := fun i => nv (zv i)
def one1 (k : Nat) : Nat → Value := fun _ => .int .i64 (k : Int)
theorem one1_set {w : World} {b k k' : Nat} {t : TypeId} (h : w.rowIs b t 1 (one1 k)) : (w.setCell ⟨b, 0, none⟩ (.int .i64 (k' : Int))).rowIs b t 1 (one1 k') :=
  (h.set 0 _).congr fun i hi => by obtain rfl : i = 0 := by omega
                                   rfl
set_option maxHeartbeats 400000 in
theorem nextF_any (kb zb k : Nat) (w : World) (hk : k < 255) (h1 : w.rowIs kb 3 1 (one1 k)) (h2 : w.rowIs zb 22 256 (ints zvi)) (hne : zb ≠ kb) :
    Calls Try.prog 39 #[.pointer (some ⟨kb, 0, none⟩), .pointer (some ⟨zb, 0, none⟩)] w fun e w' => e = .returned (.int .i64 (nv (zv (k + 1)))) ∧ w.setCell ⟨kb, 0, none⟩ (.int .i64 ((k + 1 : Nat) : Int)) = w' := by
  have c := h1.cell (i := 0) (by omega)
  unfold one1 at c
  have d := h1.frozen 0
  have z := (h2.setOther (a := ⟨kb, 0, none⟩) hne (.int .i64 ((k : Int) + 1))).cell (i := k + 1) (by omega)
  unfold ints zvi at z
  have x := (one1_set (k' := k + 1) h1).cell (i := 0) (by omega)
  unfold one1 at x
  have e : ((k + 1 : Nat) : Int) = (k : Int) + 1 := by omega
  rw [e] at x
  rw [e]
  have E := Lib.hid e
  clear h1 h2 e
  go_enter Try.func39, Try.ntmps39
  go_wp2
  go_ret
  exact ⟨rfl, rfl⟩
set_option maxHeartbeats 400000 in
theorem nextB_any (kb zb k : Nat) (w : World) (hk : k < 256) (h1 : w.rowIs kb 3 1 (one1 (k + 1))) (h2 : w.rowIs zb 22 256 (ints zvi)) (hne : zb ≠ kb) :
    Calls Try.prog 43 #[.pointer (some ⟨kb, 0, none⟩), .pointer (some ⟨zb, 0, none⟩)] w fun e w' => e = .returned (.int .i64 (-(nv (zv k)))) ∧ w.setCell ⟨kb, 0, none⟩ (.int .i64 (k : Int)) = w' := by
  have c := h1.cell (i := 0) (by omega)
  unfold one1 at c
  have d := h1.frozen 0
  have z := (h2.setOther (a := ⟨kb, 0, none⟩) hne (.int .i64 (k : Int))).cell (i := k) (by omega)
  unfold ints zvi at z
  have x := (one1_set (k' := k) h1).cell (i := 0) (by omega)
  unfold one1 at x
  have e : ((k + 1 : Nat) : Int) - 1 = (k : Int) := by omega
  have q : IntKind.i64.wrap ((k : Int) + 1 - 1) = (k : Int) := by rw [show (k : Int) + 1 - 1 = k by omega]; exact IntWalk.i64_in _ (by omega)
  have n1 := nv_lo (zv k); have n2 := nv_hi (zv k)
  obtain ⟨y, hy⟩ : ∃ y, nv (zv k) = y := ⟨_, rfl⟩
  rw [hy] at z n1 n2
  rw [hy]
  clear h1 h2 hy
  go_enter Try.func43, Try.ntmps43
  go_wp2
  go_ret
  exact ⟨rfl, rfl⟩
end Go.Proofs.Ytaihlmedeebimaa.Lg
