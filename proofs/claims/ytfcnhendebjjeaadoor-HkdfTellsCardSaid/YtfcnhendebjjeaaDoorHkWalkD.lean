/- Walks: Equal, mayBeAsked, great. -/
import Derived.Test.YtfcnhendebjjeaaDoorHkWalkC
namespace Go.Proofs.YtfcnhendebjjeaaDoor.Sha
set_option linter.all false
open Go.RowKit

/-- in what two texts are unlike, so far -/
def diffTo (a b : List Nat) : Nat → Nat
  | 0 => 0
  | k + 1 => diffTo a b k ||| (gt a k ^^^ gt b k)
theorem diffTo_lt {a b : List Nat} (ha : ∀ j, gt a j < 256) (hb : ∀ j, gt b j < 256) : ∀ k, diffTo a b k < 256
  | 0 => by show 0 < 256; omega
  | k + 1 => Nat.or_lt_two_pow (n := 8) (diffTo_lt ha hb k) (xor256 (ha k) (hb k))
theorem xor_zero {a b : Nat} (h : a ^^^ b = 0) : a = b := by
  apply Nat.eq_of_testBit_eq
  intro i
  have h1 : (a ^^^ b).testBit i = (0 : Nat).testBit i := by rw [h]
  rw [Nat.testBit_xor, Nat.zero_testBit] at h1
  revert h1
  cases a.testBit i <;> cases b.testBit i <;> simp
theorem or_zero {a b : Nat} (h : a ||| b = 0) : a = 0 ∧ b = 0 := by
  have h1 : a ≤ a ||| b := Nat.left_le_or
  have h2 : b ≤ a ||| b := Nat.right_le_or
  omega
theorem diffTo_zero {a b : List Nat} : ∀ k, diffTo a b k = 0 ↔ ∀ i, i < k → gt a i = gt b i
  | 0 => ⟨fun _ i h => absurd h (by omega), fun _ => rfl⟩
  | k + 1 => by
    constructor
    · intro h i hi
      obtain ⟨h1, h2⟩ := or_zero h
      by_cases e : i = k
      · subst e; exact xor_zero h2
      · exact (diffTo_zero k).1 h1 i (by omega)
    · intro h
      have h1 := (diffTo_zero k).2 fun i hi => h i (by omega)
      show diffTo a b k ||| (gt a k ^^^ gt b k) = 0
      rw [h1, h k (by omega), Nat.xor_self]; rfl
theorem diff_same {a b : List Nat} (hl : a.length = b.length) : (diffTo a b a.length = 0) ↔ a = b := by
  rw [diffTo_zero]
  exact ⟨fun h => ext_gt rfl hl.symm h, fun h => by subst h; intros; rfl⟩
theorem or_bits8 {a d : Nat} (h : a < 256) (h' : d < 256) : bits .or .u8 (a : Int) (d : Int) = ((a ||| d : Nat) : Int) := u8_or_nat _ _ h h'

set_option maxHeartbeats 1000000 in
set_option maxRecDepth 100000 in
theorem equal_any (A A2 : Option Addr) (a b : List Nat) (n c n2 c2 : Nat) (w : World) (hR : Rd w w.heap.size A a) (hn : a.length = n) (hR2 : Rd w w.heap.size A2 b) (hn2 : b.length = n2) (hm : n ≤ 4611686018427387904) (hm2 : n2 ≤ 4611686018427387904) :
    Calls Tryd.prog 19 #[.slice A n c, .slice A2 n2 c2] w fun e w' => e = .returned (.bool (decide (a = b))) ∧ ∃ m, w' = w.drewN m := by
  have HR := Lib.hid hR; have HN := Lib.hid (fun _ : Unit => hn); have HR2 := Lib.hid hR2; have HN2 := Lib.hid (fun _ : Unit => hn2); clear hR hn hR2 hn2
  by_cases hnn : n = n2
  · subst hnn
    have HD : Hid (Unit → (decide (diffTo a b n = 0) = decide (a = b))) := Lib.hid fun _ => by
      have := diff_same (a := a) (b := b) (by rw [HN.out (), HN2.out ()])
      rw [HN.out ()] at this
      exact decide_eq_decide.2 this
    go_enter Tryd.func19, Tryd.ntmps19
    go_wp2
    go_loopw [5, 14] (fun u i W => ∃ k m : Nat, k ≤ n ∧ i = .int .i64 k ∧ u = .int .u8 (diffTo a b k : Nat) ∧ W = w.drewN m) (fun _ i _ => n - (intOf i).toNat)
    case atStart => exact ⟨0, 0, by omega, rfl, rfl, rfl⟩
    case round =>
      obtain ⟨k, m, hk, rfl, rfl, rfl⟩ := hrel
      by_cases hkn : k < n
      · obtain ⟨ad, rfl, _, hc1⟩ := HR.out.2 (by rw [HN.out ()]; omega)
        obtain ⟨ad2, rfl, _, hc2⟩ := HR2.out.2 (by rw [HN2.out ()]; omega)
        have c0 := hc1 k (by rw [HN.out ()]; omega)
        have c1 := hc2 k (by rw [HN2.out ()]; omega)
        clear hc1 hc2
        have hx := xor_bits8 (HR.out.1 k) (HR2.out.1 k)
        have ho := or_bits8 (diffTo_lt HR.out.1 HR2.out.1 k) (xor256 (HR.out.1 k) (HR2.out.1 k))
        have yk : (k : Int) < (n : Int) := by omega
        go_wp2
        go_region
        go_wp2
        go_roundw
        case rel => exact ⟨k + 1, m + 1, by omega, by go_num, rfl, rfl⟩
        case measure => simp [intOf]; omega
      · obtain rfl : k = n := by omega
        go_wp2
        go_ret
        refine ⟨?_, m, rfl⟩
        rw [← HD.out ()]
        show Ending.returned (Value.bool _) = _
        have e : ∀ x : Nat, ((x : Int) == 0) = decide (x = 0) := fun x => by
          rw [Bool.eq_iff_iff, beq_iff_eq, decide_eq_true_iff]; omega
        rw [← e]
  · go_enter Tryd.func19, Tryd.ntmps19
    have hd : ((n : Int) == (n2 : Int)) = false := by rw [beq_eq_false_iff_ne]; omega
    have HD : Hid (Unit → decide (a = b) = false) := Lib.hid fun _ => by
      rw [decide_eq_false_iff_not]; intro e; apply hnn; rw [← HN.out (), ← HN2.out (), e]
    go_wp2
    go_ret
    exact ⟨by rw [HD.out ()]; rfl, 0, rfl⟩
theorem asked_any (x : Int) (w : World) : Calls Tryd.prog 23 #[.int .i64 x] w fun e w' => e = .returned (.bool (decide (0 ≤ x ∧ x ≤ 8160))) ∧ w = w' := by
  go_enter Tryd.func23, Tryd.ntmps23
  go_wp2
  all_goals (go_ret; exact ⟨by simp <;> omega, rfl⟩)
theorem great_any (A : Option Addr) (n c : Nat) (w : World) : Calls Tryd.prog 10 #[.slice A n c] w fun e w' => e = .returned (.bool (decide (17000 < n))) ∧ w = w' := by
  go_enter Tryd.func10, Tryd.ntmps10
  go_wp2
  go_ret
  exact ⟨by simp; omega, rfl⟩
theorem great_yes (A : Option Addr) (n c : Nat) (w : World) (h : 17000 < n) : Calls Tryd.prog 10 #[.slice A n c] w fun e w' => e = .returned (.bool true) ∧ w = w' :=
  (great_any A n c w).mono fun _ _ ⟨e, hw⟩ => ⟨by rw [e, decide_eq_true h], hw⟩
theorem great_no (A : Option Addr) (n c : Nat) (w : World) (h : n ≤ 17000) : Calls Tryd.prog 10 #[.slice A n c] w fun e w' => e = .returned (.bool false) ∧ w = w' :=
  (great_any A n c w).mono fun _ _ ⟨e, hw⟩ => ⟨by rw [e, decide_eq_false (by omega)], hw⟩
end Go.Proofs.YtfcnhendebjjeaaDoor.Sha
