/- Walks: Expand and Label where nothing may be asked; head. -/
import Derived.Test.YtfcnhendebjjeaaDoorHkWalkF
import Derived.Lib.SlBytesConst
namespace Go.Proofs.YtfcnhendebjjeaaDoor.Sha
set_option linter.all false
open Go.RowKit Iter

set_option maxHeartbeats 1000000 in
theorem expand_bad (A A2 : Option Addr) (n c n2 c2 : Nat) (x : Int) (w : World) (hx : x < 0 ∨ 8160 < x) :
    Calls Tryd.prog 13 #[.slice A n c, .slice A2 n2 c2, .int .i64 x] w fun e w' => e = .returned (.slice none 0 0) ∧ Below w.heap.size w w' := by
  have hdec : decide ((0 : Int) ≤ x ∧ x ≤ 8160) = false := decide_eq_false (by omega)
  refine callsIn_wide.1 (callsIn_of_wp_marks (n := 0) Tryd.func13 rfl trivial (wpIn_wide.2 ?_) rfl)
  simp only [Tryd.ntmps13, List.size_toArray, List.length_cons, List.length_nil, Nat.reduceAdd, Nat.reduceSub, Array.replicate_succ, Array.replicate_zero, List.push_toArray, List.append_toArray, List.nil_append, List.cons_append]
  go_wp2_with fail
  refine (asked_any _ _).mono ?_
  rintro e' w1 ⟨rfl, rfl⟩
  rw [hdec]
  clear hdec
  go_wp2
  exact ⟨_, results_tmp rfl _ _ _, rfl, (Below.refl _ _).alloc (Nat.le_refl _) _⟩

set_option maxHeartbeats 1000000 in
theorem label_bad (A A2 : Option Addr) (n c n2 c2 : Nat) (s : ByteArray) (x : Int) (w : World) (hx : x < 0 ∨ 8160 < x ∨ 40 < s.size ∨ 16000 < n2) :
    Calls Tryd.prog 14 #[.slice A n c, .string s, .slice A2 n2 c2, .int .i64 x] w fun e w' => e = .returned (.slice none 0 0) ∧ w = w' := by
  go_enter Tryd.func14, Tryd.ntmps14
  go_wp2_with fail
  refine (asked_any _ _).mono ?_
  rintro e' w1 ⟨rfl, rfl⟩
  by_cases h1 : (0 : Int) ≤ x ∧ x ≤ 8160
  · have hdec : decide ((0 : Int) ≤ x ∧ x ≤ 8160) = true := decide_eq_true h1
    rw [hdec]
    clear hdec
    by_cases h2 : 40 < s.size
    · have y2 : (40 : Int) < (s.size : Int) := by omega
      go_wp2
      go_ret
      exact ⟨rfl, rfl⟩
    · have y2 : ¬ (40 : Int) < (s.size : Int) := by omega
      have y3 : (16000 : Int) < (n2 : Int) := by omega
      go_wp2
      go_ret
      exact ⟨rfl, rfl⟩
  · have hdec : decide ((0 : Int) ≤ x ∧ x ≤ 8160) = false := decide_eq_false h1
    rw [hdec]
    clear hdec
    go_wp2
    go_ret
    exact ⟨rfl, rfl⟩

end Go.Proofs.YtfcnhendebjjeaaDoor.Sha
