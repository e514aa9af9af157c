/- What each call tells, as premises that a walk may choose among; head. -/
import Derived.Test.YtgpjlofdeidacaaDoorSpPath
import Derived.Test.YtgpjlofdeidacaaDoorSpRefD
namespace Go.Proofs.YtgpjlofdeidacaaDoor.Sp
set_option linter.all false
open Go.RowKit Fl

structure IdxC (re im : Nat) (n : Int) : Prop where
  is : ∃ o, Is re im o ∧ indexF o = n
structure UpC (re im x y : Nat) : Prop where
  is : ∃ o, Is re im o ∧ Ws (upF o) x y
structure OtC (re im x y : Nat) : Prop where
  is : ∃ o, Is re im o ∧ Ws (otherF o) x y
structure DnC (re im : Nat) (right : Bool) (x y : Nat) : Prop where
  is : ∃ o, Is re im o ∧ Ws (downF right o) x y
structure OvC (re im : Nat) (i : Int) (b : Bool) : Prop where
  is : ∃ o, Is re im o ∧ overF i o = b
structure RtC (re im : Nat) (d : Int) (b : Bool) : Prop where
  is : ∃ o, Is re im o ∧ rightF d o = b
structure LfC (i : Int) (x y : Nat) : Prop where
  is : Ws (leafF i) x y
structure MtC (a b : Int) (x y : Nat) : Prop where
  is : ∃ m n : Nat, a = m ∧ b = n ∧ m < 65536 ∧ n < 65536 ∧ Ws (meetF m n) x y
structure AtC (i : Int) (x y : Nat) : Prop where
  is : ∃ k l p : Nat, i = k ∧ 2 ^ l * (2 * p + 1) = k + 1 ∧ l ≤ 16 ∧ p < 2 ^ (16 - l) ∧ Ws (l, p) x y
theorem index_c {re im : Nat} {n : Int} (h : IdxC re im n) (w : World) : Calls Tryd.prog 12 #[.complex .f64 re im] w fun e w' => e = .returned (.int .i64 n) ∧ w = w' := by
  obtain ⟨o, h1, h2⟩ := h.is; exact index_is re im o n w h1 h2
theorem up_c {re im x y : Nat} (h : UpC re im x y) (w : World) : Calls Tryd.prog 14 #[.complex .f64 re im] w fun e w' => e = .returned (.complex .f64 x y) ∧ w = w' := by
  obtain ⟨o, h1, h2⟩ := h.is; exact up_is re im x y o w h1 h2
theorem other_c {re im x y : Nat} (h : OtC re im x y) (w : World) : Calls Tryd.prog 16 #[.complex .f64 re im] w fun e w' => e = .returned (.complex .f64 x y) ∧ w = w' := by
  obtain ⟨o, h1, h2⟩ := h.is; exact other_is re im x y o w h1 h2
theorem down_c {re im x y : Nat} {right : Bool} (h : DnC re im right x y) (w : World) : Calls Tryd.prog 18 #[.complex .f64 re im, .bool right] w fun e w' => e = .returned (.complex .f64 x y) ∧ w = w' := by
  obtain ⟨o, h1, h2⟩ := h.is; exact down_is re im x y right o w h1 h2
theorem over_c {re im : Nat} {i : Int} {b : Bool} (h : OvC re im i b) (w : World) : Calls Tryd.prog 20 #[.complex .f64 re im, .int .i64 i] w fun e w' => e = .returned (.bool b) ∧ w = w' := by
  obtain ⟨o, h1, h2⟩ := h.is; exact over_is re im i o b w h1 h2
theorem right_c {re im : Nat} {d : Int} {b : Bool} (h : RtC re im d b) (w : World) : Calls Tryd.prog 10 #[.complex .f64 re im, .int .i64 d] w fun e w' => e = .returned (.bool b) ∧ w = w' := by
  obtain ⟨o, h1, h2⟩ := h.is; exact right_is re im d o b w h1 h2
theorem leaf_c {i : Int} {x y : Nat} (h : LfC i x y) (w : World) : Calls Tryd.prog 24 #[.int .i64 i] w fun e w' => e = .returned (.complex .f64 x y) ∧ w = w' := leaf_is i x y w h.is
theorem meet_c {a b : Int} {x y : Nat} (h : MtC a b x y) (w : World) : Calls Tryd.prog 23 #[.int .i64 a, .int .i64 b] w fun e w' => e = .returned (.complex .f64 x y) ∧ w = w' := by
  obtain ⟨m, n, rfl, rfl, h1, h2, h3⟩ := h.is; exact meet_is m n x y w h1 h2 h3
theorem at_c {i : Int} {x y : Nat} (h : AtC i x y) (w : World) (hT : Tab w) : Calls Tryd.prog 22 #[.int .i64 i] w fun e w' => e = .returned (.complex .f64 x y) ∧ w = w' := by
  obtain ⟨k, l, p, rfl, h1, h2, h3, h4⟩ := h.is; exact at_is k l p x y w hT h1 h2 h3 h4
theorem rindex_c {re im : Nat} {n : Int} (h : IdxC re im n) (w : World) : Calls Tryd.prog 13 #[.complex .f64 re im] w fun e w' => e = .returned (.int .i64 n) ∧ Below w.heap.size w w' := by
  obtain ⟨o, h1, h2⟩ := h.is; exact rindex_is re im o n w h1 h2
theorem rup_c {re im x y : Nat} (h : UpC re im x y) (w : World) : Calls Tryd.prog 15 #[.complex .f64 re im] w fun e w' => e = .returned (.complex .f64 x y) ∧ Below w.heap.size w w' := by
  obtain ⟨o, h1, h2⟩ := h.is; exact rUp_is re im x y o w h1 h2
theorem rother_c {re im x y : Nat} (h : OtC re im x y) (w : World) : Calls Tryd.prog 17 #[.complex .f64 re im] w fun e w' => e = .returned (.complex .f64 x y) ∧ Below w.heap.size w w' := by
  obtain ⟨o, h1, h2⟩ := h.is; exact rother_is re im x y o w h1 h2
theorem rdown_c {re im x y : Nat} {right : Bool} (h : DnC re im right x y) (w : World) : Calls Tryd.prog 19 #[.complex .f64 re im, .bool right] w fun e w' => e = .returned (.complex .f64 x y) ∧ Below w.heap.size w w' := by
  obtain ⟨o, h1, h2⟩ := h.is; exact rdown_is re im x y right o w h1 h2
theorem rover_c {re im : Nat} {i : Int} {b : Bool} (h : OvC re im i b) (w : World) : Calls Tryd.prog 21 #[.complex .f64 re im, .int .i64 i] w fun e w' => e = .returned (.bool b) ∧ Below w.heap.size w w' := by
  obtain ⟨o, h1, h2⟩ := h.is; exact rover_is re im i o b w h1 h2
theorem rright_c {re im : Nat} {d : Int} {b : Bool} (h : RtC re im d b) (w : World) : Calls Tryd.prog 11 #[.complex .f64 re im, .int .i64 d] w fun e w' => e = .returned (.bool b) ∧ Below w.heap.size w w' := by
  obtain ⟨o, h1, h2⟩ := h.is; exact rright_is re im d o b w h1 h2

/-- a word stands to itself as alike -/
theorem alike {x a y b : Nat} (hx : fl a = x) (hy : fl b = y) (ha : a < 2 ^ 52) (hb : b < 2 ^ 52) : FloatKind.f64.format.order x y = some (compare a b) := by
  subst hx hy
  exact order_nz (nz_fl a) (nz_fl b) (by omega) (by omega)
theorem same {x a : Nat} (hx : fl a = x) (ha : a < 2 ^ 52) : FloatKind.f64.format.order x x = some .eq := by
  rw [alike hx hx ha ha, Nat.compare_eq_eq.2 rfl]
theorem fl3 : fl 3 = 4613937818241073152 := by rw [fl_word 3 (by decide)]; decide

set_option maxHeartbeats 2000000 in
theorem head_is (w : World) (hT : Tab w) : Calls Tryd.prog 9 #[] w fun e w' => e = .returned (.bool true) ∧ Below w.heap.size w w' := by
  have s12 : Is 4607182418800017408 4611686018427387904 (some (1, 2)) := ⟨.inl fl1.symm, .inl fl2.symm, by decide, by decide⟩
  have s11 : Is 4607182418800017408 4607182418800017408 (some (1, 1)) := ⟨.inl fl1.symm, .inl fl1.symm, by decide, by decide⟩
  have H1 : Hid (IdxC 4607182418800017408 4611686018427387904 9) := Lib.hid ⟨_, s12, by decide⟩
  have H2 : Hid (AtC 7 4613937818241073152 0) := Lib.hid ⟨7, 3, 0, rfl, by decide, by decide, by decide, fl3, fl0⟩
  have H3 : Hid (MtC 4 6 4611686018427387904 4607182418800017408) := Lib.hid ⟨4, 6, rfl, rfl, by decide, by decide, by rw [show meetF 4 6 = (2, 1) by decide]; exact ⟨fl2, fl1⟩⟩
  have H4 : Hid (RtC 4607182418800017408 4607182418800017408 2 true) := Lib.hid ⟨_, s11, by decide⟩
  have H5 : Hid (RtC 4607182418800017408 4611686018427387904 2 false) := Lib.hid ⟨_, s12, by decide⟩
  have H6 := fun w => Lib.hid (path_is 0 3 w (by decide) (by decide))
  have o0 := same fl0 (by decide)
  have o1 := same fl1 (by decide)
  have o2 := same fl2 (by decide)
  have o3 := same fl3 (by decide)
  have HT := Lib.hid hT
  clear s12 s11 hT
  go_enter Tryd.func9, Tryd.ntmps9
  go_wp2_with (first
    | (go_at_call 12; refine (index_c H1.out _).mono ?_; rintro e' w' ⟨rfl, rfl⟩)
    | (go_at_call 22; refine (at_c H2.out _ HT.out).mono ?_; rintro e' w' ⟨rfl, rfl⟩)
    | (go_at_call 23; refine (meet_c H3.out _).mono ?_; rintro e' w' ⟨rfl, rfl⟩)
    | (go_at_call 10; refine (right_c (by first | exact H4.out | exact H5.out) _).mono ?_; rintro e' w' ⟨rfl, rfl⟩)
    | (go_at_call 25; refine (H6 _).out.mono ?_; rintro e' w1 ⟨g, rfl, -, hb⟩; have HB := Lib.hid hb; clear hb)
    | go_in)
  go_ret
  exact ⟨rfl, HB.out⟩
end Go.Proofs.YtgpjlofdeidacaaDoor.Sp
