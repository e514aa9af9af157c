/- The document's At. -/
import Derived.Test.YtakglldffpnlaaaGreatDoorRtWalkE
namespace Go.Proofs.YtakglldffpnlaaaGreatDoor.Rt
set_option linter.all false
open Go.RowKit
open Wr (Txt Any New)

theorem at_step {n l l0 p : Nat} (hl : l < l0) (hn : n = 2 ^ (l0 - l) * (2 * p + 1)) : n % 2 = 0 ∧ n / 2 = 2 ^ (l0 - (l + 1)) * (2 * p + 1) := by
  have e : 2 ^ (l0 - l) = 2 * 2 ^ (l0 - (l + 1)) := by rw [show l0 - l = l0 - (l + 1) + 1 by omega, Nat.pow_succ]; omega
  rw [e, Nat.mul_assoc] at hn
  omega

set_option maxHeartbeats 1000000 in
set_option maxRecDepth 100000 in
theorem refAt_is (l0 p : Nat) (w : World) (hl : l0 ≤ 16) (hp : p < 2 ^ (16 - l0)) :
    Calls Tryz.prog 77 #[.int .i64 (idx l0 p : Nat)] w fun e w' => e = .returned (.complex .f64 (Fl.fl l0) (Fl.fl p)) ∧ Below w.heap.size w w' := by
  have hw : Sp.Ws (l0, p) (Fl.fl l0) (Fl.fl p) := ⟨rfl, rfl⟩
  have HC := Lib.hid fun w => Sp.number_yes l0 p _ _ w hw
  have h1 := idx_succ l0 p
  have h2 := idx_lt (l := l0) (p := p) (d := 16) hl hp
  obtain ⟨i, hi⟩ : ∃ i, idx l0 p = i := ⟨_, rfl⟩
  rw [hi] at h1 h2 ⊢
  have h3 : i < 131071 := h2
  have H1 := Lib.hid h1
  obtain ⟨x, hx⟩ : ∃ x, Fl.fl l0 = x := ⟨_, rfl⟩
  obtain ⟨y, hy⟩ : ∃ y, Fl.fl p = y := ⟨_, rfl⟩
  rw [hx, hy] at HC ⊢
  have HP : Hid (p < 65537) := Lib.hid (by have : 2 ^ (16 - l0) ≤ 2 ^ 16 := Nat.pow_le_pow_right (by decide) (by omega); omega)
  have a1 : ¬ (i : Int) < 0 := by omega
  have a2 : ¬ (131070 : Int) < (i : Int) := by omega
  have a3 : (i : Int) + 1 = ((i + 1 : Nat) : Int) := by omega
  clear hw h1 h2 hi hx hy hp
  obtain ⟨j, hj⟩ : ∃ j, i + 1 = j := ⟨_, rfl⟩
  rw [hj] at a3 H1
  have HJ : Hid (i + 1 = j ∧ j < 131072) := Lib.hid ⟨hj, by omega⟩
  clear hj
  go_enter Tryz.func77, Tryz.ntmps77
  go_wp2_with fail
  go_loopw [3, 4] (fun v u W => ∃ (n l : Nat), l ≤ l0 ∧ n ≤ 131072 ∧ v = .int .i64 n ∧ u = .int .i64 l ∧ Hid (n = 2 ^ (l0 - l) * (2 * p + 1)) ∧ W = w) (fun v u _ => l0 - (intOf u).toNat)
  case atStart => exact ⟨j, 0, by omega, by have := HJ.out; omega, rfl, rfl, H1, rfl⟩
  case round =>
    obtain ⟨n, l, hll, hn, rfl, rfl, HN, rfl⟩ := hrel
    by_cases hl2 : l < l0
    · obtain ⟨s1, s2⟩ := at_step hl2 HN.out
      have y1 : (n : Int) % 2 = 0 := by omega
      have y2 : Int.tmod (n : Int) 2 = 0 := by rw [Int.tmod_eq_emod_of_nonneg (by omega)]; omega
      have y3 : Int.tdiv (n : Int) 2 = ((n / 2 : Nat) : Int) := by rw [Int.tdiv_eq_ediv_of_nonneg (by omega)]; omega
      obtain ⟨n2, hn2⟩ : ∃ n2, n / 2 = n2 := ⟨_, rfl⟩
      rw [hn2] at y3 s2
      have HS2 := Lib.hid s2
      have hn2' : n2 ≤ 131072 := by omega
      clear s1 s2 hn2
      go_wp2_with fail
      go_roundw
      case rel => exact ⟨n2, l + 1, by omega, hn2', by go_num, by go_num, HS2, trivial⟩
      case measure => simp [intOf]; omega
    · obtain rfl : l = l0 := by omega
      have hnp : n = 2 * p + 1 := by
        have h5 := HN.out
        rw [Nat.sub_self, Nat.pow_zero, Nat.one_mul] at h5
        exact h5
      have hp5 := HP.out
      have y1 : ¬ (n : Int) % 2 = 0 := by omega
      have y2 : ¬ Int.tmod (n : Int) 2 = 0 := by rw [Int.tmod_eq_emod_of_nonneg (by omega)]; omega
      have y3 : Int.tdiv (n : Int) 2 = (p : Int) := by rw [Int.tdiv_eq_ediv_of_nonneg (by omega)]; omega
      clear hnp
      go_wp2_with (first | (go_at_call 52; refine (HC.out _).mono ?_; rintro e' w1 ⟨rfl, hb1⟩; have HB1 := Lib.hid hb1; clear hb1) | go_in)
      go_ret
      exact ⟨rfl, HB1.out⟩
end Go.Proofs.YtakglldffpnlaaaGreatDoor.Rt
