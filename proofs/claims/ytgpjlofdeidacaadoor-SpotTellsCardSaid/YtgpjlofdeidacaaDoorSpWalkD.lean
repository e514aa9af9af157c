/- Walks: Down, isLeaf, spotOf, Leaf, Over. -/
import Derived.Test.YtgpjlofdeidacaaDoorSpWalkC
namespace Go.Proofs.YtgpjlofdeidacaaDoor.Sp
set_option linter.all false
open Go.RowKit Fl

theorem cadd {a b c d x y : Nat} (h1 : Ieee.double.add a c = some x) (h2 : Ieee.double.add b d = some y) (t : TypeId) (w : World) : (binOp .add t (.complex .f64 a b) (.complex .f64 c d)).run Tryd.prog w = .ok (.complex .f64 x y) w := by
  refine run_complex_sum w .add (.inl rfl) t .f64 a b c d x y ?_
  have e1 : floatBits .add .f64 a c = some x := h1
  have e2 : floatBits .add .f64 b d = some y := h2
  simp [cSumBits, e1, e2]

set_option maxHeartbeats 1000000 in
theorem down_is (re im x y : Nat) (right : Bool) (o : Option (Nat × Nat)) (w : World) (ho : Is re im o) (hn : Ws (downF right o) x y) :
    Calls Tryd.prog 18 #[.complex .f64 re im, .bool right] w fun e w' => e = .returned (.complex .f64 x y) ∧ w = w' := by
  rcases o with _ | ⟨l, p⟩
  · have C1 : Hid (Pt re im 0 0 false) := Lib.hid ⟨none, ho, .inr ⟨rfl, rfl, rfl, rfl⟩⟩
    obtain rfl : 0 = x := by rw [← hn.x]; exact fl0.symm
    obtain rfl : 0 = y := by rw [← hn.y]; exact fl0.symm
    clear ho hn
    go_enter Tryd.func18, Tryd.ntmps18
    go_wp2_with (first | (go_at_call 30; refine (parts_is C1.out _).mono ?_; rintro e' w' ⟨rfl, rfl⟩) | go_in)
    go_ret
    exact ⟨rfl, rfl⟩
  · have hs : Spot re im 16 l p := ho
    have b1 := hs.lev
    have b2 := hs.small (by decide)
    have C1 : Hid (Pt re im (fl l) (fl p) true) := Lib.hid ⟨some (l, p), ho, .inl ⟨l, p, rfl, rfl, rfl, rfl⟩⟩
    have o1 := order_nz (nz_fl l) (nz_fl 0) (by omega) (by decide)
    rw [fl0] at o1
    by_cases h0 : l = 0
    · have o2 : FloatKind.f64.format.order (fl l) 0 = some .eq := by rw [show FloatKind.f64.format = Ieee.double from rfl, o1, Nat.compare_eq_eq.2 h0]
      obtain rfl : 0 = x := by rw [← hn.x]; simp [downF, h0, fl0]
      obtain rfl : 0 = y := by rw [← hn.y]; simp [downF, h0, fl0]
      obtain ⟨lx, hx⟩ : ∃ x, fl l = x := ⟨_, rfl⟩
      obtain ⟨py, hy⟩ : ∃ y, fl p = y := ⟨_, rfl⟩
      rw [hx] at C1 o2
      rw [hy] at C1
      clear ho hn hs o1 hx hy h0
      go_enter Tryd.func18, Tryd.ntmps18
      go_wp2_with (first | (go_at_call 30; refine (parts_is C1.out _).mono ?_; rintro e' w' ⟨rfl, rfl⟩) | go_in)
      go_ret
      exact ⟨rfl, rfl⟩
    · have o2 : FloatKind.f64.format.order (fl l) 0 = some .gt := by rw [show FloatKind.f64.format = Ieee.double from rfl, o1, Nat.compare_eq_gt.2 (by omega)]
      have hx' : fl (l - 1) = x := by rw [← hn.x]; simp [downF, h0]
      have a1 := Fl.sub l 1 (by omega) (by omega)
      rw [fl1, hx'] at a1
      have f1 := fsub a1
      have a2 := Fl.mul 2 p (by decide) (by omega) (by omega)
      rw [fl2] at a2
      have f2 := fmul a2
      have hy' : fl (2 * p + (if right then 1 else 0)) = y := by rw [← hn.y]; simp [downF, h0]
      obtain ⟨lx, hx⟩ : ∃ x, fl l = x := ⟨_, rfl⟩
      obtain ⟨py, hy⟩ : ∃ y, fl p = y := ⟨_, rfl⟩
      obtain ⟨z, hz⟩ : ∃ z, fl (2 * p) = z := ⟨_, rfl⟩
      rw [hz] at f2
      rw [hx] at C1 o2 f1
      rw [hy] at C1 f2
      cases right with
      | false =>
        obtain rfl : z = y := by rw [← hz, ← hy']; simp
        clear ho hn hs o1 hx hy h0 hx' hy' a1 a2 hz
        go_enter Tryd.func18, Tryd.ntmps18
        go_wp2_with (first | (go_at_call 30; refine (parts_is C1.out _).mono ?_; rintro e' w' ⟨rfl, rfl⟩) | go_in)
        go_ret
        exact ⟨rfl, rfl⟩
      | true =>
        have a3 := Fl.add (l - 1) 0 (by omega)
        rw [fl0, hx', Nat.add_zero, hx'] at a3
        have a4 := Fl.add (2 * p) 1 (by omega)
        rw [fl1, hz, show 2 * p + 1 = 2 * p + (if (true : Bool) then 1 else 0) by simp, hy'] at a4
        have f3 := cadd a3 a4
        clear ho hn hs o1 hx hy h0 hx' hy' a1 a2 a3 a4 hz
        go_enter Tryd.func18, Tryd.ntmps18
        go_wp2_with (first | (go_at_call 30; refine (parts_is C1.out _).mono ?_; rintro e' w' ⟨rfl, rfl⟩) | go_in)
        go_ret
        exact ⟨rfl, rfl⟩

set_option maxHeartbeats 1000000 in
theorem isLeaf_is (i d : Int) (b : Bool) (w : World) (hb : decide (0 ≤ d ∧ d ≤ 16 ∧ 0 ≤ i ∧ i < 2 ^ d.toNat) = b) :
    Calls Tryd.prog 35 #[.int .i64 i, .int .i64 d] w fun e w' => e = .returned (.bool b) ∧ w = w' := by
  by_cases hd : 0 ≤ d ∧ d ≤ 16
  · obtain ⟨k, rfl⟩ := Int.eq_ofNat_of_zero_le hd.1
    have C1 := Lib.hid (isDeep_yes k w (by omega))
    obtain ⟨n, hn⟩ : ∃ n, 2 ^ k = n := ⟨_, rfl⟩
    have C2 := Lib.hid (leaves_is k n w (by omega) hn)
    have e : (2 : Int) ^ ((k : Int).toNat) = (n : Int) := by rw [← hn]; simp
    rw [e] at hb
    by_cases h0 : 0 ≤ i
    · by_cases h1 : i < (n : Int)
      · obtain rfl : true = b := by rw [← hb]; exact (decide_eq_true ⟨hd.1, hd.2, h0, h1⟩).symm
        clear hb e hn
        go_enter Tryd.func35, Tryd.ntmps35
        go_wp2_with (first | (go_at_call 26; refine C1.out.mono ?_; rintro e' w' ⟨rfl, rfl⟩) | (go_at_call 28; refine C2.out.mono ?_; rintro e' w' ⟨rfl, rfl⟩) | go_in)
        go_ret
        exact ⟨rfl, rfl⟩
      · obtain rfl : false = b := by rw [← hb]; exact (decide_eq_false fun h => h1 h.2.2.2).symm
        clear hb e hn
        go_enter Tryd.func35, Tryd.ntmps35
        go_wp2_with (first | (go_at_call 26; refine C1.out.mono ?_; rintro e' w' ⟨rfl, rfl⟩) | (go_at_call 28; refine C2.out.mono ?_; rintro e' w' ⟨rfl, rfl⟩) | go_in)
        go_ret
        exact ⟨by simp [h1], rfl⟩
    · obtain rfl : false = b := by rw [← hb]; exact (decide_eq_false fun h => h0 h.2.2.1).symm
      clear hb e hn
      go_enter Tryd.func35, Tryd.ntmps35
      go_wp2_with (first | (go_at_call 26; refine C1.out.mono ?_; rintro e' w' ⟨rfl, rfl⟩) | go_in)
      go_ret
      exact ⟨rfl, rfl⟩
  · obtain rfl : false = b := by rw [← hb]; exact (decide_eq_false fun h => hd ⟨h.1, h.2.1⟩).symm
    have C1 := Lib.hid (isDeep_no d w hd)
    clear hb hd
    go_enter Tryd.func35, Tryd.ntmps35
    go_wp2_with (first | (go_at_call 26; refine C1.out.mono ?_; rintro e' w' ⟨rfl, rfl⟩) | go_in)
    go_ret
    exact ⟨rfl, rfl⟩
theorem leaf16 (i : Int) (w : World) : Calls Tryd.prog 35 #[.int .i64 i, .int .i64 16] w fun e w' => e = .returned (.bool (decide (0 ≤ i ∧ i < 65536))) ∧ w = w' := by
  refine isLeaf_is i 16 _ w ?_
  congr 1
  simp

set_option maxHeartbeats 1000000 in
theorem spotOf_is (l p x y : Nat) (w : World) (hw : Ws (l, p) x y) :
    Calls Tryd.prog 37 #[.int .i64 (l : Int), .int .i64 (p : Int)] w fun e w' => e = .returned (.complex .f64 x y) ∧ w = w' := by
  have n1 := nearest_is l
  have n2 := nearest_is p
  rw [show fl l = x from hw.x] at n1
  rw [show fl p = y from hw.y] at n2
  clear hw
  go_enter Tryd.func37, Tryd.ntmps37
  go_wp2
  go_ret
  exact ⟨rfl, rfl⟩

/-- the spot of a leaf, or nought -/
def leafF (i : Int) : Nat × Nat := if 0 ≤ i ∧ i < 65536 then (0, i.toNat) else (0, 0)
set_option maxHeartbeats 1000000 in
theorem leaf_is (i : Int) (x y : Nat) (w : World) (hw : Ws (leafF i) x y) :
    Calls Tryd.prog 24 #[.int .i64 i] w fun e w' => e = .returned (.complex .f64 x y) ∧ w = w' := by
  have C1 := Lib.hid (leaf16 i w)
  by_cases h : 0 ≤ i ∧ i < 65536
  · rw [decide_eq_true h] at C1
    have hw : Ws (0, i.toNat) x y := by rwa [leafF, if_pos h] at hw
    obtain ⟨k, rfl⟩ := Int.eq_ofNat_of_zero_le h.1
    have C2 := Lib.hid (spotOf_is 0 k x y w hw)
    clear hw
    go_enter Tryd.func24, Tryd.ntmps24
    go_wp2_with (first | (go_at_call 35; refine C1.out.mono ?_; rintro e' w' ⟨rfl, rfl⟩) | (go_at_call 37; refine C2.out.mono ?_; rintro e' w' ⟨rfl, rfl⟩) | go_in)
    go_ret
    exact ⟨rfl, rfl⟩
  · rw [decide_eq_false h] at C1
    rw [leafF, if_neg h] at hw
    obtain rfl : 0 = x := by rw [← hw.x]; exact fl0.symm
    obtain rfl : 0 = y := by rw [← hw.y]; exact fl0.symm
    clear hw h
    go_enter Tryd.func24, Tryd.ntmps24
    go_wp2_with (first | (go_at_call 35; refine C1.out.mono ?_; rintro e' w' ⟨rfl, rfl⟩) | go_in)
    go_ret
    exact ⟨rfl, rfl⟩

set_option maxHeartbeats 1000000 in
theorem over_is (re im : Nat) (i : Int) (o : Option (Nat × Nat)) (b : Bool) (w : World) (ho : Is re im o) (hb : overF i o = b) :
    Calls Tryd.prog 20 #[.complex .f64 re im, .int .i64 i] w fun e w' => e = .returned (.bool b) ∧ w = w' := by
  rcases o with _ | ⟨l, p⟩
  · have C1 : Hid (Pt re im 0 0 false) := Lib.hid ⟨none, ho, .inr ⟨rfl, rfl, rfl, rfl⟩⟩
    obtain rfl : false = b := hb
    clear ho
    go_enter Tryd.func20, Tryd.ntmps20
    go_wp2_with (first | (go_at_call 30; refine (parts_is C1.out _).mono ?_; rintro e' w' ⟨rfl, rfl⟩) | go_in)
    go_ret
    exact ⟨rfl, rfl⟩
  · have hs : Spot re im 16 l p := ho
    have b1 := hs.lev
    have b2 := hs.small (by decide)
    have C1 : Hid (Pt re im (fl l) (fl p) true) := Lib.hid ⟨some (l, p), ho, .inl ⟨l, p, rfl, rfl, rfl, rfl⟩⟩
    have C2 := Lib.hid (leaf16 i w)
    have i1 := int_run (nz_fl l) (by omega)
    have i2 := int_run (nz_fl p) (by omega)
    obtain ⟨x, hx⟩ : ∃ x, fl l = x := ⟨_, rfl⟩
    obtain ⟨y, hy⟩ : ∃ y, fl p = y := ⟨_, rfl⟩
    rw [hx] at C1 i1
    rw [hy] at C1 i2
    by_cases h : 0 ≤ i ∧ i < 65536
    · rw [decide_eq_true h] at C2
      obtain ⟨k, rfl⟩ := Int.eq_ofNat_of_zero_le h.1
      obtain ⟨q, hq⟩ : ∃ q, k / 2 ^ l = q := ⟨_, rfl⟩
      have x1 : (k : Int) / 2 ^ l = (q : Int) := by rw [← hq]; simp
      have x2 : ((q : Int) == (p : Int)) = b := by
        rw [← hb]
        simp only [overF, x1]
        rw [Bool.eq_iff_iff]
        simp only [beq_iff_eq, decide_eq_true_eq]
        exact ⟨fun e => ⟨h.1, h.2, e⟩, fun e => e.2.2⟩
      clear ho hs hx hy hb hq
      go_enter Tryd.func20, Tryd.ntmps20
      go_wp2_with (first | (go_at_call 30; refine (parts_is C1.out _).mono ?_; rintro e' w' ⟨rfl, rfl⟩) | (go_at_call 35; refine C2.out.mono ?_; rintro e' w' ⟨rfl, rfl⟩) | go_in)
      go_ret
      exact ⟨rfl, rfl⟩
    · rw [decide_eq_false h] at C2
      obtain rfl : false = b := by rw [← hb]; simp only [overF]; exact (decide_eq_false fun e => h ⟨e.1, e.2.1⟩).symm
      clear ho hs hx hy hb h
      go_enter Tryd.func20, Tryd.ntmps20
      go_wp2_with (first | (go_at_call 30; refine (parts_is C1.out _).mono ?_; rintro e' w' ⟨rfl, rfl⟩) | (go_at_call 35; refine C2.out.mono ?_; rintro e' w' ⟨rfl, rfl⟩) | go_in)
      go_ret
      exact ⟨rfl, rfl⟩
end Go.Proofs.YtgpjlofdeidacaaDoor.Sp
