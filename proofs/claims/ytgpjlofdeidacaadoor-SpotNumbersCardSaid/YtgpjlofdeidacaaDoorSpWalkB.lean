/- Walks: Right, parts, Index, Up, Down, Leaf, spotOf, isLeaf, Over. -/
import Derived.Test.YtgpjlofdeidacaaDoorSpWalkA
namespace Go.Proofs.YtgpjlofdeidacaaDoor.Sp
set_option linter.all false
open Go.RowKit Fl

/-- a complex number is the spot of a level and a place, in a tree so deep -/
structure Spot (re im deep l p : Nat) : Prop where
  re : Nz re l
  im : Nz im p
  lev : l ≤ deep
  pl : p < 2 ^ (deep - l)
theorem pow_le (d : Nat) (h : d ≤ 16) : 2 ^ d ≤ 65536 := Nat.pow_le_pow_right (by decide) (show d ≤ 16 from h)
theorem pow_pos' (d : Nat) : 1 ≤ 2 ^ d := Nat.two_pow_pos d
theorem Spot.small {re im deep l p : Nat} (h : Spot re im deep l p) (hd : deep ≤ 16) : p < 65536 := by
  have h1 := pow_le (deep - l) (by omega)
  have h2 := h.pl
  omega

theorem int_run {x n : Nat} (hx : Nz x n) (hn : n < 2 ^ 52) (w : World) : (convert 22 3 (.float .f64 x)).run Tryd.prog w = .ok (.int .i64 (n : Int)) w := by
  refine run_convert_float_int w _ _ .f64 .i64 x n (by rw [Tryd.underlying22]; rfl) Tryd.underlying3 ?_
  have h : (FloatKind.f64.decode x).toInt .zero = some (n : Int) := toInt_nz hx (by omega)
  unfold floatToIntVal
  rw [h]
  exact if_pos ⟨by show (-9223372036854775808 : Int) ≤ n; omega, by show (n : Int) ≤ 9223372036854775807; omega⟩

theorem isDeep_yes (d : Nat) (w : World) (h : d ≤ 16) : Calls Tryd.prog 26 #[.int .i64 (d : Int)] w fun e w' => e = .returned (.bool true) ∧ w = w' := by
  have := isDeep_is (d : Int) w
  rwa [decide_eq_true (by omega)] at this
theorem isDeep_no (d : Int) (w : World) (h : ¬ (0 ≤ d ∧ d ≤ 16)) : Calls Tryd.prog 26 #[.int .i64 d] w fun e w' => e = .returned (.bool false) ∧ w = w' := by
  have := isDeep_is d w
  rwa [decide_eq_false h] at this

set_option maxHeartbeats 1000000 in
theorem right_yes (re im deep l p : Nat) (w : World) (hs : Spot re im deep l p) (hd : deep ≤ 16) :
    Calls Tryd.prog 10 #[.complex .f64 re im, .int .i64 (deep : Int)] w fun e w' => e = .returned (.bool true) ∧ w = w' := by
  have c1 := isDeep_yes deep w hd
  have c2 : WH re deep true := ⟨hs.re.lt, by omega, fun _ => ⟨l, hs.lev, hs.re⟩, by simp⟩
  obtain ⟨q, hq⟩ : ∃ q, q + l = deep := ⟨deep - l, by have := hs.lev; omega⟩
  have x1 : (deep : Int) - (l : Int) = (q : Int) := by omega
  obtain ⟨n, hn⟩ : ∃ n, 2 ^ q = n := ⟨_, rfl⟩
  have c3 := leaves_is q n w (by omega) hn
  have hp := hs.pl
  rw [show deep - l = q by omega, hn] at hp
  obtain ⟨m, hm⟩ : ∃ m, m + 1 = n := ⟨n - 1, by omega⟩
  have x2 : (n : Int) - 1 = (m : Int) := by omega
  have b1 : n ≤ 65536 := by rw [← hn]; exact pow_le q (by omega)
  have c4 : WH im m true := ⟨hs.im.lt, by omega, fun _ => ⟨p, by omega, hs.im⟩, by simp⟩
  have i1 := int_run hs.re (by have := hs.lev; omega)
  have b2 : l ≤ 16 := by have := hs.lev; omega
  have C1 := Lib.hid c1; have C2 := Lib.hid c2; have C3 := Lib.hid c3; have C4 := Lib.hid c4
  clear c1 c2 c3 c4 hs hn hq hp hm
  go_enter Tryd.func10, Tryd.ntmps10
  go_wp2_with (first | (go_at_call 26; refine C1.out.mono ?_; rintro e' w' ⟨rfl, rfl⟩) | (go_at_call 28; refine C3.out.mono ?_; rintro e' w' ⟨rfl, rfl⟩) | (go_at_call 27; refine (isWhole_is (by first | exact C2.out | exact C4.out) _).mono ?_; rintro e' w' ⟨rfl, rfl⟩) | go_in)
  go_ret
  exact ⟨rfl, rfl⟩

set_option maxHeartbeats 1000000 in
theorem right_deep (re im : Nat) (deep : Int) (w : World) (hd : ¬ (0 ≤ deep ∧ deep ≤ 16)) :
    Calls Tryd.prog 10 #[.complex .f64 re im, .int .i64 deep] w fun e w' => e = .returned (.bool false) ∧ w = w' := by
  have C1 := Lib.hid (isDeep_no deep w hd)
  clear hd
  go_enter Tryd.func10, Tryd.ntmps10
  go_wp2_with (first | (go_at_call 26; refine C1.out.mono ?_; rintro e' w' ⟨rfl, rfl⟩) | go_in)
  go_ret
  exact ⟨rfl, rfl⟩

set_option maxHeartbeats 1000000 in
theorem right_no (re im deep : Nat) (w : World) (h1 : re < 2 ^ 64) (h2 : im < 2 ^ 64) (hs : ∀ l p, ¬ Spot re im deep l p) (hd : deep ≤ 16) :
    Calls Tryd.prog 10 #[.complex .f64 re im, .int .i64 (deep : Int)] w fun e w' => e = .returned (.bool false) ∧ w = w' := by
  have C1 := Lib.hid (isDeep_yes deep w hd)
  by_cases hre : ∃ l, l ≤ deep ∧ Nz re l
  · obtain ⟨l, hl, hr⟩ := hre
    have c2 : WH re deep true := ⟨hr.lt, by omega, fun _ => ⟨l, hl, hr⟩, by simp⟩
    obtain ⟨q, hq⟩ : ∃ q, q + l = deep := ⟨deep - l, by omega⟩
    have x1 : (deep : Int) - (l : Int) = (q : Int) := by omega
    obtain ⟨n, hn⟩ : ∃ n, 2 ^ q = n := ⟨_, rfl⟩
    have c3 := leaves_is q n w (by omega) hn
    have b1 : n ≤ 65536 := by rw [← hn]; exact pow_le q (by omega)
    have b0 : 1 ≤ n := by rw [← hn]; exact pow_pos' q
    obtain ⟨m, hm⟩ : ∃ m, m + 1 = n := ⟨n - 1, by omega⟩
    have x2 : (n : Int) - 1 = (m : Int) := by omega
    have c4 : WH im m false := ⟨h2, by omega, by simp, fun _ p hp h => hs l p ⟨hr, h, hl, by rw [show deep - l = q by omega, hn]; omega⟩⟩
    have i1 := int_run hr (by omega)
    have b2 : l ≤ 16 := by omega
    have C2 := Lib.hid c2; have C3 := Lib.hid c3; have C4 := Lib.hid c4
    clear c2 c3 c4 hs hn hq hm hr hl h1 h2
    go_enter Tryd.func10, Tryd.ntmps10
    go_wp2_with (first | (go_at_call 26; refine C1.out.mono ?_; rintro e' w' ⟨rfl, rfl⟩) | (go_at_call 28; refine C3.out.mono ?_; rintro e' w' ⟨rfl, rfl⟩) | (go_at_call 27; refine (isWhole_is (by first | exact C2.out | exact C4.out) _).mono ?_; rintro e' w' ⟨rfl, rfl⟩) | go_in)
    go_ret
    exact ⟨rfl, rfl⟩
  · have C2 := Lib.hid (show WH re deep false from ⟨h1, by omega, by simp, fun _ l hl h => hre ⟨l, hl, h⟩⟩)
    clear hs hre h1 h2
    go_enter Tryd.func10, Tryd.ntmps10
    go_wp2_with (first | (go_at_call 26; refine C1.out.mono ?_; rintro e' w' ⟨rfl, rfl⟩) | (go_at_call 27; refine (isWhole_is C2.out _).mono ?_; rintro e' w' ⟨rfl, rfl⟩) | go_in)
    go_ret
    exact ⟨rfl, rfl⟩

set_option maxHeartbeats 1000000 in
theorem parts_yes (re im l p : Nat) (w : World) (hs : Spot re im 16 l p) :
    Calls Tryd.prog 30 #[.complex .f64 re im] w fun e w' => e = .returned (.tuple #[.float .f64 (fl l), .float .f64 (fl p), .bool true]) ∧ w = w' := by
  have C1 := Lib.hid (right_yes re im 16 l p w hs (by decide))
  have C2 : Hid (Ab re (fl l)) := Lib.hid ⟨l, by have := hs.lev; omega, hs.re, rfl⟩
  have C3 : Hid (Ab im (fl p)) := Lib.hid ⟨p, by have := hs.small (by decide); omega, hs.im, rfl⟩
  obtain ⟨x, hx⟩ : ∃ x, fl l = x := ⟨_, rfl⟩
  obtain ⟨y, hy⟩ : ∃ y, fl p = y := ⟨_, rfl⟩
  rw [hx] at C2 ⊢
  rw [hy] at C3 ⊢
  clear hs hx hy
  go_enter Tryd.func30, Tryd.ntmps30
  go_wp2_with (first | (go_at_call 10; refine C1.out.mono ?_; rintro e' w' ⟨rfl, rfl⟩) | (go_at_call 39; refine (abs_at (by first | exact C2.out | exact C3.out) _).mono ?_; rintro e' w' ⟨rfl, rfl⟩) | go_in)
  go_ret3
  exact ⟨rfl, rfl⟩
set_option maxHeartbeats 1000000 in
theorem parts_no (re im : Nat) (w : World) (h1 : re < 2 ^ 64) (h2 : im < 2 ^ 64) (hs : ∀ l p, ¬ Spot re im 16 l p) :
    Calls Tryd.prog 30 #[.complex .f64 re im] w fun e w' => e = .returned (.tuple #[.float .f64 0, .float .f64 0, .bool false]) ∧ w = w' := by
  have C1 := Lib.hid (right_no re im 16 w h1 h2 hs (by decide))
  clear hs h1 h2
  go_enter Tryd.func30, Tryd.ntmps30
  go_wp2_with (first | (go_at_call 10; refine C1.out.mono ?_; rintro e' w' ⟨rfl, rfl⟩) | go_in)
  go_ret3
  exact ⟨rfl, rfl⟩
end Go.Proofs.YtgpjlofdeidacaaDoor.Sp
