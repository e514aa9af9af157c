/- Walks: the iterators of the powers, level. -/
import Derived.Test.YtjaaldkkfdfkcaaSmWalkF
namespace Go.Proofs.Ytjaaldkkfdfkcaa.Sm
open Go.RowKit
set_option linter.all false

def zvi : Nat → Int := fun i => nv (zv i)
def one1 (k : Nat) : Nat → Value := fun _ => .int .i64 (k : Int)
theorem one1_set {w : World} {b k k' : Nat} {t : TypeId} (h : w.rowIs b t 1 (one1 k)) : (w.setCell ⟨b, 0, none⟩ (.int .i64 (k' : Int))).rowIs b t 1 (one1 k') :=
  (h.set 0 _).congr fun i hi => by obtain rfl : i = 0 := by omega
                                   rfl
set_option maxHeartbeats 400000 in
theorem nextF_any (kb zb k : Nat) (w : World) (hk : k < 127) (h1 : w.rowIs kb 3 1 (one1 k)) (h2 : w.rowIs zb 34 128 (ints zvi)) (hne : zb ≠ kb) :
    Calls Try.prog 29 #[.pointer (some ⟨kb, 0, none⟩), .pointer (some ⟨zb, 0, none⟩)] w fun e w' => e = .returned (.int .i64 (nv (zv (k + 1)))) ∧ w.setCell ⟨kb, 0, none⟩ (.int .i64 ((k + 1 : Nat) : Int)) = w' := by
  have c := h1.cell (i := 0) (by omega)
  unfold one1 at c
  have d := h1.frozen 0
  have z := (h2.setOther (a := ⟨kb, 0, none⟩) hne (.int .i64 ((k : Int) + 1))).cell (i := k + 1) (by omega)
  unfold ints zvi at z
  have x := (one1_set (k' := k + 1) h1).cell (i := 0) (by omega)
  unfold one1 at x
  have e : ((k + 1 : Nat) : Int) = (k : Int) + 1 := by omega
  rw [e] at x
  rw [e]
  have E := Lib.hid e
  clear h1 h2 e
  go_enter Try.func29, Try.ntmps29
  go_wp2
  go_ret
  exact ⟨rfl, rfl⟩
set_option maxHeartbeats 400000 in
theorem nextB_any (kb zb k : Nat) (w : World) (hk : k < 128) (h1 : w.rowIs kb 3 1 (one1 (k + 1))) (h2 : w.rowIs zb 34 128 (ints zvi)) (hne : zb ≠ kb) :
    Calls Try.prog 34 #[.pointer (some ⟨kb, 0, none⟩), .pointer (some ⟨zb, 0, none⟩)] w fun e w' => e = .returned (.int .i64 (nv (zv k))) ∧ w.setCell ⟨kb, 0, none⟩ (.int .i64 (k : Int)) = w' := by
  have c := h1.cell (i := 0) (by omega)
  unfold one1 at c
  have d := h1.frozen 0
  have z := (h2.setOther (a := ⟨kb, 0, none⟩) hne (.int .i64 (k : Int))).cell (i := k) (by omega)
  unfold ints zvi at z
  have x := (one1_set (k' := k) h1).cell (i := 0) (by omega)
  unfold one1 at x
  have e : ((k + 1 : Nat) : Int) - 1 = (k : Int) := by omega
  have q : IntKind.i64.wrap ((k : Int) + 1 - 1) = (k : Int) := by rw [show (k : Int) + 1 - 1 = k by omega]; exact IntWalk.i64_in _ (by omega)
  clear h1 h2
  go_enter Try.func34, Try.ntmps34
  go_wp2
  go_ret
  exact ⟨rfl, rfl⟩
end Go.Proofs.Ytjaaldkkfdfkcaa.Sm
