/- Walks of the document's own: mod, power, turned. -/
import Derived.Test.YtdkhiooiakdecaaDoorRSmMid
import Derived.Laws.Bits128
namespace Go.Proofs.YtdkhiooiakdecaaDoorR.Sm
open Go.RowKit
set_option linter.all false

theorem rmod_red (n : Int) : nv (red n) = if n.tmod 3329 < 0 then n.tmod 3329 + 3329 else n.tmod 3329 := by
  rw [nv_red]
  rcases Int.le_total 0 n with h | h
  · rw [Int.tmod_eq_emod_of_nonneg h, if_neg (by omega)]
  · have e : n.tmod 3329 = - ((-n) % 3329) := by
      rw [show n.tmod 3329 = -((-n).tmod 3329) by rw [Int.neg_tmod]; omega, Int.tmod_eq_emod_of_nonneg (by omega)]
    rw [e]
    split <;> omega
set_option maxHeartbeats 400000 in
theorem rmod_is (n : Int) (x : F) (w : World) (h : red n = x) (h1 : -9223372036854775808 ≤ n) (h2 : n ≤ 9223372036854775807) :
    Calls Tryd.prog 43 #[.int .i64 n] w fun e w' => e = .returned (.int .i64 (nv x)) ∧ w = w' := by
  have ht := rmod_red n
  rw [h] at ht
  obtain ⟨a, b⟩ := tmod_bd n
  clear h
  by_cases hc : n.tmod 3329 < 0
  · rw [if_pos hc] at ht
    have HT := Lib.hid ht; clear ht
    go_enter Tryd.func43, Tryd.ntmps43
    go_wp2
    go_ret
    exact ⟨by rw [HT.out]; rfl, rfl⟩
  · rw [if_neg hc] at ht
    have HT := Lib.hid ht; clear ht
    go_enter Tryd.func43, Tryd.ntmps43
    go_wp2
    go_ret
    exact ⟨by rw [HT.out]; rfl, rfl⟩
theorem rmod_same (n : Int) (x : F) (w : World) (h : red n = x) (h1 : -9223372036854775808 ≤ n) (h2 : n ≤ 9223372036854775807) :
    Calls Tryd.prog 43 #[.int .i64 n] w fun e w' => e = .returned (.int .i64 (nv x)) ∧ w' = w :=
  (rmod_is n x w h h1 h2).mono fun _ _ ⟨h, h'⟩ => ⟨h, h'.symm⟩

theorem pw_step (k : Nat) : nv (pw k) * 17 % 3329 = nv (pw (k + 1)) := by
  rw [← nv_red, red_pw]
def tnTo (i : Nat) : Nat → Nat
  | 0 => 0
  | k + 1 => 2 * tnTo i k + i / 2 ^ k % 2
theorem tnTo_lt (i : Nat) : ∀ k, tnTo i k < 2 ^ k
  | 0 => by show 0 < 1; omega
  | k + 1 => by have := tnTo_lt i k; show 2 * tnTo i k + i / 2 ^ k % 2 < 2 ^ (k + 1); rw [Nat.pow_succ]; omega
theorem tnTo_seven : ∀ i, i < 128 → tnTo i 7 = tn i := by decide +kernel
theorem and_one (x : Nat) (hx : x < 128) : bits .and .i64 (x : Int) 1 = ((x % 2 : Nat) : Int) := by
  have : ∀ x, x < 128 → bits .and .i64 ((x : Nat) : Int) 1 = ((x % 2 : Nat) : Int) := by decide +kernel
  exact this x hx
end Go.Proofs.YtdkhiooiakdecaaDoorR.Sm
