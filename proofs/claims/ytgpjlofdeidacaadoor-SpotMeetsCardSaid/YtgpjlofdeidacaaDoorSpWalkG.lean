/- Walks: IsInf, IsNaN, normalize, Frexp, Ldexp, Mod by two, Other. -/
import Derived.Test.YtgpjlofdeidacaaDoorSpWalkF
import Derived.Test.YtgpjlofdeidacaaDoorFlBits
namespace Go.Proofs.YtgpjlofdeidacaaDoor.Sp
set_option linter.all false
open Go.RowKit Fl

/-- the word x is a whole number that is not nought: how it stands to others, and its fields -/
structure Pos (x q : Nat) : Prop where
  is : fl q = x
  lo : 1 ≤ q
  hi : q < 131072
section
variable {x q : Nat}
theorem Pos.zero (h : Pos x q) : FloatKind.f64.format.order x 0 = some .gt := by
  have h1 := h.lo; have h2 := h.hi
  have := order_nz (nz_fl q) (nz_fl 0) (by omega) (by decide)
  rw [fl0, h.is, Nat.compare_eq_gt.2 (by omega)] at this
  exact this
theorem Pos.normal (h : Pos x q) : FloatKind.f64.format.order x 4503599627370496 = some .gt := by
  have h1 := h.lo; have h2 := h.hi
  have := Fl.normal (q := q) (by omega) (by omega)
  rw [h.is] at this; exact this
theorem Pos.finite (h : Pos x q) : FloatKind.f64.format.order x 9218868437227405311 = some .lt := by
  have h2 := h.hi
  have := Fl.finite (q := q) (by omega)
  rw [h.is] at this; exact this
theorem Pos.same (h : Pos x q) : FloatKind.f64.format.order x x = some .eq := by
  have h2 := h.hi
  have := order_nz (nz_fl q) (nz_fl q) (by omega) (by omega)
  rw [h.is, Nat.compare_eq_eq.2 rfl] at this; exact this
theorem Pos.abs (h : Pos x q) : Ab x x := ⟨q, by have := h.hi; omega, .inl h.is.symm, h.is⟩
end

set_option maxHeartbeats 1000000 in
theorem isNaN_is (x q : Nat) (w : World) (h : Pos x q) : Calls Tryd.prog 50 #[.float .f64 x] w fun e w' => e = .returned (.bool false) ∧ w = w' := by
  have o := h.same
  clear h
  go_enter Tryd.func50, Tryd.ntmps50
  go_wp2
  go_ret
  exact ⟨rfl, rfl⟩
set_option maxHeartbeats 1000000 in
theorem isInf_is (x q : Nat) (w : World) (h : Pos x q) : Calls Tryd.prog 51 #[.float .f64 x, .int .i64 0] w fun e w' => e = .returned (.bool false) ∧ w = w' := by
  have o := h.finite
  have C1 := Lib.hid h.abs
  clear h
  go_enter Tryd.func51, Tryd.ntmps51
  go_wp2_with (first | (go_at_call 39; refine (abs_at C1.out _).mono ?_; rintro e' w' ⟨rfl, rfl⟩) | go_in)
  go_ret
  exact ⟨rfl, rfl⟩
set_option maxHeartbeats 1000000 in
theorem normalize_is (x q : Nat) (w : World) (h : Pos x q) : Calls Tryd.prog 64 #[.float .f64 x] w fun e w' => e = .returned (.tuple #[.float .f64 x, .int .i64 0]) ∧ w = w' := by
  have o := h.normal
  have C1 := Lib.hid h.abs
  clear h
  go_enter Tryd.func64, Tryd.ntmps64
  go_wp2_with (first | (go_at_call 39; refine (abs_at C1.out _).mono ?_; rintro e' w' ⟨rfl, rfl⟩) | go_in)
  go_ret2
  exact ⟨rfl, rfl⟩

set_option maxHeartbeats 1000000 in
theorem frexp0_is (x q f l z : Nat) (w : World) (h : Pos x q) (hx : x = (l + 1023) * 2 ^ 52 + f) (hf : f < 2 ^ 52) (hl : l ≤ 52) (hz : 1022 * 2 ^ 52 + f = z) :
    Calls Tryd.prog 59 #[.float .f64 x] w fun e w' => e = .returned (.tuple #[.float .f64 z, .int .i64 ((l : Int) + 1)]) ∧ w = w' := by
  have HP := Lib.hid h
  have o := h.zero
  have h1 := bits_run x
  obtain ⟨E, hE⟩ : ∃ E, l + 1023 = E := ⟨_, rfl⟩
  rw [hE] at hx
  have x1 : (x : Int) / 4503599627370496 = (E : Int) := by omega
  have x2 := and_mask E (by omega)
  have x3 : (E : Int) - 1023 = (l : Int) := by omega
  have x4 := strike E f (by omega) hf
  rw [← hx] at x4
  have x5 := put_in 1022 f (by decide) hf
  rw [hz, show ((1022 * 2 ^ 52 : Nat) : Int) = 4602678819172646912 from rfl] at x5
  have h2 := word_run z
  have b1 : (E : Int) ≤ 2047 := by omega
  have b2 : (l : Int) ≤ 52 := by omega
  clear h hx hf hl hz hE
  go_enter Tryd.func59, Tryd.ntmps59
  go_wp2_with (first | (go_at_call 51; refine (isInf_is _ _ _ HP.out).mono ?_; rintro e' w' ⟨rfl, rfl⟩) | (go_at_call 50; refine (isNaN_is _ _ _ HP.out).mono ?_; rintro e' w' ⟨rfl, rfl⟩) | (go_at_call 64; refine (normalize_is _ _ _ HP.out).mono ?_; rintro e' w' ⟨rfl, rfl⟩) | go_in)
  go_ret2
  exact ⟨rfl, rfl⟩
theorem frexp_is (x q f l z : Nat) (w : World) (h : Pos x q) (hx : x = (l + 1023) * 2 ^ 52 + f) (hf : f < 2 ^ 52) (hl : l ≤ 52) (hz : 1022 * 2 ^ 52 + f = z) :
    Calls Tryd.prog 54 #[.float .f64 x] w fun e w' => e = .returned (.tuple #[.float .f64 z, .int .i64 ((l : Int) + 1)]) ∧ w = w' := by
  have C1 := Lib.hid (frexp0_is x q f l z w h hx hf hl hz)
  clear h hx hf hl hz
  go_enter Tryd.func54, Tryd.ntmps54
  go_wp2_with (first | (go_at_call 59; refine C1.out.mono ?_; rintro e' w' ⟨rfl, rfl⟩) | go_in)
  go_ret2
  exact ⟨rfl, rfl⟩
end Go.Proofs.YtgpjlofdeidacaaDoor.Sp
