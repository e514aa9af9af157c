/- Walks: Index, Up, Down, Over, isLeaf, spotOf, Leaf. -/
import Derived.Test.YtgpjlofdeidacaaDoorSpWalkB
namespace Go.Proofs.YtgpjlofdeidacaaDoor.Sp
set_option linter.all false
open Go.RowKit Fl

/-- what a complex number is: the spot of a level and a place, or none at all -/
def Is (re im : Nat) : Option (Nat × Nat) → Prop
  | some (l, p) => Spot re im 16 l p
  | none => re < 2 ^ 64 ∧ im < 2 ^ 64 ∧ ∀ l p, ¬ Spot re im 16 l p
theorem is_any (re im : Nat) (h1 : re < 2 ^ 64) (h2 : im < 2 ^ 64) : ∃ o, Is re im o := by
  by_cases h : ∃ l p, Spot re im 16 l p
  · obtain ⟨l, p, h⟩ := h; exact ⟨some (l, p), h⟩
  · exact ⟨none, h1, h2, fun l p hs => h ⟨l, p, hs⟩⟩
def upF : Option (Nat × Nat) → Nat × Nat
  | some (l, p) => if l = 16 then (0, 0) else (l + 1, p / 2)
  | none => (0, 0)
def downF (right : Bool) : Option (Nat × Nat) → Nat × Nat
  | some (l, p) => if l = 0 then (0, 0) else (l - 1, 2 * p + (if right then 1 else 0))
  | none => (0, 0)
def indexF : Option (Nat × Nat) → Int
  | some (l, p) => (2 * p + 1 : Nat) * 2 ^ l - 1
  | none => -1
def overF (i : Int) : Option (Nat × Nat) → Bool
  | some (l, p) => decide (0 ≤ i ∧ i < 65536 ∧ i / 2 ^ l = p)
  | none => false
/-- the words x and y are the level and the place of a pair -/
structure Ws (q : Nat × Nat) (x y : Nat) : Prop where
  x : fl q.1 = x
  y : fl q.2 = y

/-- what parts tells -/
structure Pt (re im x y : Nat) (b : Bool) : Prop where
  is : ∃ o, Is re im o ∧ ((∃ l p, o = some (l, p) ∧ fl l = x ∧ fl p = y ∧ b = true) ∨ (o = none ∧ x = 0 ∧ y = 0 ∧ b = false))
theorem parts_is {re im x y : Nat} {b : Bool} (h : Pt re im x y b) (w : World) :
    Calls Tryd.prog 30 #[.complex .f64 re im] w fun e w' => e = .returned (.tuple #[.float .f64 x, .float .f64 y, .bool b]) ∧ w = w' := by
  obtain ⟨o, ho, ⟨l, p, rfl, rfl, rfl, rfl⟩ | ⟨rfl, rfl, rfl, rfl⟩⟩ := h.is
  · exact parts_yes re im l p w ho
  · exact parts_no re im w ho.1 ho.2.1 ho.2.2

theorem number_lt {l p : Nat} (h : p < 2 ^ (16 - l)) (hl : l ≤ 16) : (2 * p + 1) * 2 ^ l + 1 ≤ 131072 := by
  have e : (2 * p + 2) * 2 ^ l ≤ 2 * 2 ^ (16 - l) * 2 ^ l := Nat.mul_le_mul_right _ (by omega)
  have e2 : 2 * 2 ^ (16 - l) * 2 ^ l = 131072 := by
    rw [Nat.mul_assoc, ← Nat.pow_add, show 16 - l + l = 16 by omega]
  have e3 : (2 * p + 2) * 2 ^ l = (2 * p + 1) * 2 ^ l + 2 ^ l := by rw [show 2 * p + 2 = (2 * p + 1) + 1 by omega, Nat.add_mul, Nat.one_mul]
  have := Nat.two_pow_pos l
  omega

set_option maxHeartbeats 1000000 in
theorem index_is (re im : Nat) (o : Option (Nat × Nat)) (n : Int) (w : World) (ho : Is re im o) (hn : indexF o = n) :
    Calls Tryd.prog 12 #[.complex .f64 re im] w fun e w' => e = .returned (.int .i64 n) ∧ w = w' := by
  rcases o with _ | ⟨l, p⟩
  · have C1 : Hid (Pt re im 0 0 false) := Lib.hid ⟨none, ho, .inr ⟨rfl, rfl, rfl, rfl⟩⟩
    obtain rfl : -1 = n := hn
    clear ho
    go_enter Tryd.func12, Tryd.ntmps12
    go_wp2_with (first | (go_at_call 30; refine (parts_is C1.out _).mono ?_; rintro e' w' ⟨rfl, rfl⟩) | go_in)
    go_ret
    exact ⟨rfl, rfl⟩
  · have hs : Spot re im 16 l p := ho
    have b1 := hs.lev
    have b2 := hs.small (by decide)
    have b3 := number_lt hs.pl hs.lev
    have C1 : Hid (Pt re im (fl l) (fl p) true) := Lib.hid ⟨some (l, p), ho, .inl ⟨l, p, rfl, rfl, rfl, rfl⟩⟩
    have i1 := int_run (nz_fl l) (by omega)
    have i2 := int_run (nz_fl p) (by omega)
    obtain ⟨N, hN⟩ : ∃ N, (2 * p + 1) * 2 ^ l = N := ⟨_, rfl⟩
    have x1 : (2 * (p : Int) + 1) * 2 ^ l = (N : Int) := by rw [← hN]; simp
    have x2 : n = (N : Int) - 1 := by rw [← hn, ← hN]; simp [indexF]
    rw [hN] at b3
    have b4 : 1 ≤ N := by rw [← hN]; exact Nat.mul_pos (by omega) (Nat.two_pow_pos l)
    obtain ⟨x, hx⟩ : ∃ x, fl l = x := ⟨_, rfl⟩
    obtain ⟨y, hy⟩ : ∃ y, fl p = y := ⟨_, rfl⟩
    rw [hx] at C1 i1
    rw [hy] at C1 i2
    subst x2
    clear ho hs hn hN hx hy
    go_enter Tryd.func12, Tryd.ntmps12
    go_wp2_with (first | (go_at_call 30; refine (parts_is C1.out _).mono ?_; rintro e' w' ⟨rfl, rfl⟩) | go_in)
    go_ret
    exact ⟨rfl, rfl⟩

theorem fadd {x y r : Nat} (h : Ieee.double.add x y = some r) (t : TypeId) (w : World) : (binOp .add t (.float .f64 x) (.float .f64 y)).run Tryd.prog w = .ok (.float .f64 r) w := run_float_arith w .add t .f64 x y r h
theorem fsub {x y r : Nat} (h : Ieee.double.sub x y = some r) (t : TypeId) (w : World) : (binOp .sub t (.float .f64 x) (.float .f64 y)).run Tryd.prog w = .ok (.float .f64 r) w := run_float_arith w .sub t .f64 x y r h
theorem fmul {x y r : Nat} (h : Ieee.double.mul x y = some r) (t : TypeId) (w : World) : (binOp .mul t (.float .f64 x) (.float .f64 y)).run Tryd.prog w = .ok (.float .f64 r) w := run_float_arith w .mul t .f64 x y r h
theorem fdiv {x y r : Nat} (h : Ieee.double.div x y = some r) (t : TypeId) (w : World) : (binOp .quo t (.float .f64 x) (.float .f64 y)).run Tryd.prog w = .ok (.float .f64 r) w := run_float_arith w .quo t .f64 x y r h

set_option maxHeartbeats 1000000 in
theorem up_is (re im x y : Nat) (o : Option (Nat × Nat)) (w : World) (ho : Is re im o) (hn : Ws (upF o) x y) :
    Calls Tryd.prog 14 #[.complex .f64 re im] w fun e w' => e = .returned (.complex .f64 x y) ∧ w = w' := by
  rcases o with _ | ⟨l, p⟩
  · have C1 : Hid (Pt re im 0 0 false) := Lib.hid ⟨none, ho, .inr ⟨rfl, rfl, rfl, rfl⟩⟩
    obtain rfl : 0 = x := by rw [← hn.x]; exact fl0.symm
    obtain rfl : 0 = y := by rw [← hn.y]; exact fl0.symm
    clear ho hn
    go_enter Tryd.func14, Tryd.ntmps14
    go_wp2_with (first | (go_at_call 30; refine (parts_is C1.out _).mono ?_; rintro e' w' ⟨rfl, rfl⟩) | go_in)
    go_ret
    exact ⟨rfl, rfl⟩
  · have hs : Spot re im 16 l p := ho
    have b1 := hs.lev
    have b2 := hs.small (by decide)
    have C1 : Hid (Pt re im (fl l) (fl p) true) := Lib.hid ⟨some (l, p), ho, .inl ⟨l, p, rfl, rfl, rfl, rfl⟩⟩
    have o1 := order_nz (nz_fl l) (nz_fl 16) (by omega) (by decide)
    rw [fl16] at o1
    by_cases h16 : l = 16
    · have o2 : FloatKind.f64.format.order (fl l) 4625196817309499392 = some .eq := by rw [show FloatKind.f64.format = Ieee.double from rfl, o1, Nat.compare_eq_eq.2 h16]
      obtain rfl : 0 = x := by rw [← hn.x]; simp [upF, h16, fl0]
      obtain rfl : 0 = y := by rw [← hn.y]; simp [upF, h16, fl0]
      obtain ⟨lx, hx⟩ : ∃ x, fl l = x := ⟨_, rfl⟩
      obtain ⟨py, hy⟩ : ∃ y, fl p = y := ⟨_, rfl⟩
      rw [hx] at C1 o2
      rw [hy] at C1
      clear ho hn hs o1 hx hy h16
      go_enter Tryd.func14, Tryd.ntmps14
      go_wp2_with (first | (go_at_call 30; refine (parts_is C1.out _).mono ?_; rintro e' w' ⟨rfl, rfl⟩) | go_in)
      go_ret
      exact ⟨rfl, rfl⟩
    · have o2 : FloatKind.f64.format.order (fl l) 4625196817309499392 = some .lt := by rw [show FloatKind.f64.format = Ieee.double from rfl, o1, Nat.compare_eq_lt.2 (by omega)]
      have hx' : fl (l + 1) = x := by rw [← hn.x]; simp [upF, h16]
      have hy' : fl (p / 2) = y := by rw [← hn.y]; simp [upF, h16]
      have a1 := Fl.add l 1 (by omega)
      rw [fl1, hx'] at a1
      have f1 := fadd a1
      obtain ⟨h, hq, s, m, e, hr, hf⟩ := Fl.half p (by omega)
      rw [fl2] at hq
      have f2 := fdiv hq
      rw [hy'] at hf
      have C2 := fun w => Lib.hid (floor_is h y w hr hf)
      obtain ⟨lx, hx⟩ : ∃ x, fl l = x := ⟨_, rfl⟩
      obtain ⟨py, hy⟩ : ∃ y, fl p = y := ⟨_, rfl⟩
      rw [hx] at C1 o2 f1
      rw [hy] at C1 f2
      clear ho hn hs o1 hx hy h16 hr hf hx' hy' a1 hq
      go_enter Tryd.func14, Tryd.ntmps14
      go_wp2_with (first | (go_at_call 30; refine (parts_is C1.out _).mono ?_; rintro e' w' ⟨rfl, rfl⟩) | (go_at_call 31; refine (C2 _).out.mono ?_; rintro e' w' ⟨rfl, rfl⟩) | go_in)
      go_ret
      exact ⟨rfl, rfl⟩
end Go.Proofs.YtgpjlofdeidacaaDoor.Sp
