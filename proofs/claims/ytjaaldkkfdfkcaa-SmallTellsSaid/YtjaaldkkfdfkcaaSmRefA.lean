/- Walks of the document's own: mod, power, turned. -/
import Derived.Test.YtjaaldkkfdfkcaaSmHead
import Derived.Laws.Bits128
namespace Go.Proofs.Ytjaaldkkfdfkcaa.Sm
open Go.RowKit
set_option linter.all false

theorem rmod_red (n : Int) : nv (red n) = if n.tmod 3329 < 0 then n.tmod 3329 + 3329 else n.tmod 3329 := by
  rw [nv_red]
  rcases Int.le_total 0 n with h | h
  · rw [Int.tmod_eq_emod_of_nonneg h, if_neg (by omega)]
  · have e : n.tmod 3329 = - ((-n) % 3329) := by
      rw [show n.tmod 3329 = -((-n).tmod 3329) by rw [Int.neg_tmod]; omega, Int.tmod_eq_emod_of_nonneg (by omega)]
    rw [e]
    split <;> omega
set_option maxHeartbeats 400000 in
theorem rmod_is (n : Int) (x : F) (w : World) (h : red n = x) (h1 : -9223372036854775808 ≤ n) (h2 : n ≤ 9223372036854775807) :
    Calls Try.prog 25 #[.int .i64 n] w fun e w' => e = .returned (.int .i64 (nv x)) ∧ w = w' := by
  have ht := rmod_red n
  rw [h] at ht
  obtain ⟨a, b⟩ := tmod_bd n
  clear h
  by_cases hc : n.tmod 3329 < 0
  · rw [if_pos hc] at ht
    have HT := Lib.hid ht; clear ht
    go_enter Try.func25, Try.ntmps25
    go_wp2
    go_ret
    exact ⟨by rw [HT.out]; rfl, rfl⟩
  · rw [if_neg hc] at ht
    have HT := Lib.hid ht; clear ht
    go_enter Try.func25, Try.ntmps25
    go_wp2
    go_ret
    exact ⟨by rw [HT.out]; rfl, rfl⟩
theorem rmod_same (n : Int) (x : F) (w : World) (h : red n = x) (h1 : -9223372036854775808 ≤ n) (h2 : n ≤ 9223372036854775807) :
    Calls Try.prog 25 #[.int .i64 n] w fun e w' => e = .returned (.int .i64 (nv x)) ∧ w' = w :=
  (rmod_is n x w h h1 h2).mono fun _ _ ⟨h, h'⟩ => ⟨h, h'.symm⟩

theorem pw_step (k : Nat) : nv (pw k) * 17 % 3329 = nv (pw (k + 1)) := by
  rw [← nv_red, red_pw]
set_option maxHeartbeats 800000 in
theorem rpower_any (n : Nat) (w : World) (hn : n ≤ 1000) :
    Calls Try.prog 32 #[.int .i64 17, .int .i64 n] w fun e w' => e = .returned (.int .i64 (nv (pw n))) ∧ w = w' := by
  have one : (1 : Int) = nv (pw 0) := by decide
  go_enter Try.func32, Try.ntmps32
  go_wp2
  go_loop [5, 6] (fun o i => ∃ k : Nat, k ≤ n ∧ i = .int .i64 k ∧ o = .int .i64 (nv (pw k))) (fun _ i => n - (intOf i).toNat)
  case atStart => exact ⟨0, by omega, rfl, rfl⟩
  case round =>
    clear one
    obtain ⟨k, hk, rfl, rfl⟩ := hrel
    have a1 := nv_lo (pw k); have a2 := nv_hi (pw k)
    by_cases hlt : k < n
    · have HS := Lib.hid (pw_step k)
      go_wp2
      go_round
      case rel => exact ⟨k + 1, by omega, by go_num, by rw [← HS.out]⟩
      case measure => simp [intOf]; omega
    · obtain rfl : k = n := by omega
      go_wp2
      go_ret
      exact ⟨rfl, rfl⟩

def tnTo (i : Nat) : Nat → Nat
  | 0 => 0
  | k + 1 => 2 * tnTo i k + i / 2 ^ k % 2
theorem tnTo_lt (i : Nat) : ∀ k, tnTo i k < 2 ^ k
  | 0 => by show 0 < 1; omega
  | k + 1 => by have := tnTo_lt i k; show 2 * tnTo i k + i / 2 ^ k % 2 < 2 ^ (k + 1); rw [Nat.pow_succ]; omega
theorem tnTo_seven : ∀ i, i < 128 → tnTo i 7 = tn i := by decide +kernel
theorem and_one (x : Nat) (hx : x < 128) : bits .and .i64 (x : Int) 1 = ((x % 2 : Nat) : Int) := by
  have : ∀ x, x < 128 → bits .and .i64 ((x : Nat) : Int) 1 = ((x % 2 : Nat) : Int) := by decide +kernel
  exact this x hx
set_option maxHeartbeats 800000 in
theorem rturned_any (i : Nat) (w : World) (hi : i < 128) :
    Calls Try.prog 33 #[.int .i64 i] w fun e w' => e = .returned (.int .i64 (tn i : Nat)) ∧ w = w' := by
  have HT := Lib.hid (tnTo_seven i hi)
  go_enter Try.func33, Try.ntmps33
  go_wp2
  go_loop [3, 4] (fun o k => ∃ j : Nat, j ≤ 7 ∧ k = .int .i64 j ∧ o = .int .i64 (tnTo i j : Nat)) (fun _ k => 7 - (intOf k).toNat)
  case atStart => exact ⟨0, by omega, rfl, rfl⟩
  case round =>
    obtain ⟨j, hj, rfl, rfl⟩ := hrel
    have b1 : tnTo i j < 128 := Nat.lt_of_lt_of_le (tnTo_lt i j) (Nat.pow_le_pow_right (by omega) hj)
    by_cases hlt : j < 7
    · have hdv : i / 2 ^ j < 128 := Nat.lt_of_le_of_lt (Nat.div_le_self _ _) hi
      have hs : tnTo i (j + 1) = 2 * tnTo i j + i / 2 ^ j % 2 := rfl
      have hc : ((i : Int) / 2 ^ j) = ((i / 2 ^ j : Nat) : Int) := by simp
      obtain ⟨x, hx⟩ : ∃ x, i / 2 ^ j = x := ⟨_, rfl⟩
      rw [hx] at hdv hs hc
      have HX := Lib.hid (fun _ : Unit => hx)
      have HS := Lib.hid hs
      clear hx hs
      have ha : bits .and .i64 (x : Int) 1 = (x : Int) % 2 := by rw [and_one x hdv]; omega
      obtain ⟨y, hy⟩ : ∃ y, tnTo i j = y := ⟨_, rfl⟩
      rw [hy] at b1 HS
      rw [hy]
      clear hy
      go_wp2
      go_round
      case rel => exact ⟨j + 1, by omega, by go_num, by rw [HS.out]; go_num⟩
      case measure => simp [intOf]; omega
    · obtain rfl : j = 7 := by omega
      go_wp2
      go_ret
      exact ⟨by rw [HT.out]; rfl, rfl⟩
end Go.Proofs.Ytjaaldkkfdfkcaa.Sm
