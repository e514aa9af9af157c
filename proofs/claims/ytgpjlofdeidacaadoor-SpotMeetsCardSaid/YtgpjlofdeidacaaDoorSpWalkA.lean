/- Walks: words of floats, Abs, Floor, isDeep, leaves, isLeaf, isWhole. -/
import Derived.Test.YtgpjlofdeidacaaDoorChecked
import Derived.Test.YtgpjlofdeidacaaDoorFlPlain
import Derived.WalkSpells
import Derived.WalkLawsBesides
import Derived.RegionTactic
import Derived.BigRegion
import Derived.BigQuiet
import Derived.Deep.QuietTactic
import Derived.IntWalk
import Derived.Outline
import Derived.Lib.Hide
import Derived.Laws.Bits128
import Derived.Laws.ComplexArith
import Derived.Laws.Externs
namespace Go.Proofs.YtgpjlofdeidacaaDoor.Sp
set_option linter.all false
open Go.RowKit Fl

theorem bits_run (b : Nat) (w : World) : (callFunc 49 #[.float .f64 b]).run Tryd.prog w = .ok (.value (.int .u64 b)) w := by
  rw [run_callFunc_extern Tryd.func49 (by kernel_rfl) (by kernel_rfl) (by kernel_rfl) (e := Extern.MathFloatBits.float64bits) (by kernel_rfl)]
  rfl
theorem word_run (b : Nat) (w : World) : (callFunc 48 #[.int .u64 (b : Int)]).run Tryd.prog w = .ok (.value (.float .f64 b)) w := by
  rw [run_callFunc_extern Tryd.func48 (by kernel_rfl) (by kernel_rfl) (by kernel_rfl) (e := Extern.MathFloatBits.float64frombits) (by kernel_rfl)]
  rfl
attribute [local irreducible] FloatKind.decode in
theorem floor_entry (x y : Nat) {s : Bool} {m : Nat} {e : Int} (h : FloatKind.f64.decode x = .number s m e) (h2 : FloatKind.f64.encode ((Ieee.Datum.number s m e).integral .down) = y) :
    Extern.MathFloor.toIntegral "math.archFloor" .down #[.float .f64 x] = pure (.float .f64 y) := by
  conv => lhs; whnf
  rw [h, ← h2]
theorem floor_run (x y : Nat) {s : Bool} {m : Nat} {e : Int} (hr : Ieee.double.read x = .number s m e) (hy : Ieee.double.write ((Ieee.double.read x).integral .down) = y) (w : World) :
    (callFunc 40 #[.float .f64 x]).run Tryd.prog w = .ok (.value (.float .f64 y)) w := by
  rw [run_callFunc_extern Tryd.func40 (by kernel_rfl) (by kernel_rfl) (by kernel_rfl) (e := Extern.MathFloor.toIntegral "math.archFloor" .down) (by kernel_rfl)]
  rw [hr] at hy
  rw [floor_entry x y hr hy]
  rfl

theorem floor_is (x y : Nat) {s : Bool} {m : Nat} {e : Int} (w : World) (hr : Ieee.double.read x = .number s m e) (hy : Ieee.double.write ((Ieee.double.read x).integral .down) = y) :
    Calls Tryd.prog 31 #[.float .f64 x] w fun e w' => e = .returned (.float .f64 y) ∧ w = w' := by
  have hx := floor_run x y hr hy
  clear hr hy
  go_enter Tryd.func31, Tryd.ntmps31
  go_wp2
  go_ret
  exact ⟨rfl, rfl⟩

theorem abs_is (x n : Nat) (w : World) (hx : Nz x n) (hn : n < 2 ^ 52) :
    Calls Tryd.prog 39 #[.float .f64 x] w fun e w' => e = .returned (.float .f64 (fl n)) ∧ w = w' := by
  have e1 : bits .andNot .u64 (x : Int) (9223372036854775808 : Int) = (fl n : Int) := by
    rcases hx with rfl | ⟨rfl, rfl⟩
    · have hl := fl_small n hn
      have := u64_andNot_nat (fl n) 9223372036854775808 (by omega) (by decide)
      rw [show ((9223372036854775808 : Nat) : Int) = 9223372036854775808 from rfl] at this
      rw [this, show 18446744073709551615 - 9223372036854775808 = 2 ^ 63 - 1 by decide, Nat.and_two_pow_sub_one_eq_mod, Nat.mod_eq_of_lt hl]
    · rw [fl0]; decide
  have h1 := bits_run x
  obtain ⟨y, hy⟩ : ∃ y, fl n = y := ⟨_, rfl⟩
  rw [hy] at e1 ⊢
  have h2 := word_run y
  clear hx hn hy
  go_enter Tryd.func39, Tryd.ntmps39
  go_wp2
  go_ret
  exact ⟨rfl, rfl⟩

theorem isDeep_is (d : Int) (w : World) :
    Calls Tryd.prog 26 #[.int .i64 d] w fun e w' => e = .returned (.bool (decide (0 ≤ d ∧ d ≤ 16))) ∧ w = w' := by
  by_cases h1 : 0 ≤ d
  · by_cases h2 : d ≤ 16
    · rw [decide_eq_true ⟨h1, h2⟩]
      go_enter Tryd.func26, Tryd.ntmps26
      go_wp2
      go_ret
      exact ⟨rfl, rfl⟩
    · rw [decide_eq_false (fun h => h2 h.2)]
      go_enter Tryd.func26, Tryd.ntmps26
      go_wp2
      go_ret
      exact ⟨rfl, rfl⟩
  · rw [decide_eq_false (fun h => h1 h.1)]
    go_enter Tryd.func26, Tryd.ntmps26
    go_wp2
    go_ret
    exact ⟨rfl, rfl⟩

theorem leaves_is (d n : Nat) (w : World) (h : d ≤ 16) (hn : 2 ^ d = n) :
    Calls Tryd.prog 28 #[.int .i64 (d : Int)] w fun e w' => e = .returned (.int .i64 (n : Int)) ∧ w = w' := by
  have x0 : (2 : Int) ^ d = (n : Int) := by rw [← hn]; simp
  have x1 : n ≤ 65536 := by rw [← hn]; exact Nat.pow_le_pow_right (by decide) (show d ≤ 16 from h)
  clear hn
  go_enter Tryd.func28, Tryd.ntmps28
  go_wp2
  go_ret
  exact ⟨rfl, rfl⟩

theorem nearest_is (m : Nat) : floatOfInt .f64 (m : Int) = fl m := nearest_int m

set_option maxHeartbeats 1000000 in
/-- a word is a whole number from 0 to most -/
theorem isWhole_yes (x n m : Nat) (w : World) (hx : Nz x n) (hn : n ≤ m) (hm : m ≤ 65536) :
    Calls Tryd.prog 27 #[.float .f64 x, .int .i64 (m : Int)] w fun e w' => e = .returned (.bool true) ∧ w = w' := by
  have hm' : m < 2 ^ 52 := by omega
  have hA := hx.ge (by omega)
  have hB := hx.le hn hm'
  obtain ⟨s, g, e, y, hr, hy, hq⟩ := hx.floor (by omega)
  have hC := hx.eq hq (by omega)
  have h1 := floor_is x y w hr hy
  have n1 := nearest_is m
  obtain ⟨M, hM⟩ : ∃ M, fl m = M := ⟨_, rfl⟩
  rw [hM] at hB n1
  change FloatKind.f64.format.order x 0 = _ ∨ FloatKind.f64.format.order x 0 = _ at hA
  change FloatKind.f64.format.order x M = _ ∨ FloatKind.f64.format.order x M = _ at hB
  change FloatKind.f64.format.order x y = _ at hC
  clear hr hy hq hx hM hn
  rcases hA with hA | hA <;> rcases hB with hB | hB <;>
  (go_enter Tryd.func27, Tryd.ntmps27
   go_wp2_with (first | (go_at_call 31; refine h1.mono ?_; rintro e' w' ⟨rfl, rfl⟩) | go_in)
   go_ret
   exact ⟨rfl, rfl⟩)

set_option maxHeartbeats 1000000 in
theorem isWhole_no (x m : Nat) (w : World) (hx : x < 2 ^ 64) (hno : ∀ n, n ≤ m → ¬ Nz x n) (hm : m ≤ 65536) :
    Calls Tryd.prog 27 #[.float .f64 x, .int .i64 (m : Int)] w fun e w' => e = .returned (.bool false) ∧ w = w' := by
  have hm' : m < 2 ^ 52 := by omega
  have key := not_whole hx hm' hno
  have n1 := nearest_is m
  obtain ⟨M, hM⟩ : ∃ M, fl m = M := ⟨_, rfl⟩
  rw [hM] at key n1
  change (FloatKind.f64.format.order x 0 = _ ∨ FloatKind.f64.format.order x 0 = _) → (FloatKind.f64.format.order x M = _ ∨ FloatKind.f64.format.order x M = _) → ∃ s g e n y, Ieee.double.read x = .number s g e ∧ n ≤ m ∧ (Ieee.double.read x).toInt .zero = some ((n : Nat) : Int) ∧ Ieee.double.write ((Ieee.double.read x).integral .down) = y ∧ FloatKind.f64.format.order x y ≠ some .eq ∧ FloatKind.f64.format.order (fl n) x ≠ some .eq at key
  clear hx hno hM
  rcases hA : FloatKind.f64.format.order x 0 with _ | o
  · clear key
    go_enter Tryd.func27, Tryd.ntmps27
    go_wp2
    go_ret
    exact ⟨rfl, rfl⟩
  · rcases o with _ | _ | _
    · clear key
      go_enter Tryd.func27, Tryd.ntmps27
      go_wp2
      go_ret
      exact ⟨rfl, rfl⟩
    all_goals
      have key := key (by simp [hA])
      rcases hB : FloatKind.f64.format.order x M with _ | o
      · clear key
        go_enter Tryd.func27, Tryd.ntmps27
        go_wp2
        go_ret
        exact ⟨rfl, rfl⟩
      · rcases o with _ | _ | _
        case gt =>
          clear key
          go_enter Tryd.func27, Tryd.ntmps27
          go_wp2
          go_ret
          exact ⟨rfl, rfl⟩
        all_goals
          obtain ⟨s, g, e, n, y, hr, -, -, hy, hne, -⟩ := key (by simp [hB])
          have h1 := floor_is x y w hr hy
          have hC : (FloatKind.f64.format.order x y == some .eq) = false := by simpa using hne
          clear hr hy hne key
          go_enter Tryd.func27, Tryd.ntmps27
          go_wp2_with (first | (go_at_call 31; refine h1.mono ?_; rintro e' w' ⟨rfl, rfl⟩) | go_in)
          go_ret
          exact ⟨rfl, rfl⟩
/-- whether the word x is a whole number from 0 to m -/
structure WH (x m : Nat) (b : Bool) : Prop where
  lt : x < 2 ^ 64
  hm : m ≤ 65536
  yes : b = true → ∃ n, n ≤ m ∧ Nz x n
  no : b = false → ∀ n, n ≤ m → ¬ Nz x n
theorem isWhole_is {x m : Nat} {b : Bool} (h : WH x m b) (w : World) :
    Calls Tryd.prog 27 #[.float .f64 x, .int .i64 (m : Int)] w fun e w' => e = .returned (.bool b) ∧ w = w' := by
  cases b with
  | true => obtain ⟨n, h1, h2⟩ := h.yes rfl; exact isWhole_yes x n m w h2 h1 h.hm
  | false => exact isWhole_no x m w h.lt (h.no rfl) h.hm
/-- the word y is that of x without its sign -/
structure Ab (x y : Nat) : Prop where
  is : ∃ n, n < 2 ^ 52 ∧ Nz x n ∧ fl n = y
theorem abs_at {x y : Nat} (h : Ab x y) (w : World) :
    Calls Tryd.prog 39 #[.float .f64 x] w fun e w' => e = .returned (.float .f64 y) ∧ w = w' := by
  obtain ⟨n, h1, h2, rfl⟩ := h.is
  exact abs_is x n w h2 h1
end Go.Proofs.YtgpjlofdeidacaaDoor.Sp
