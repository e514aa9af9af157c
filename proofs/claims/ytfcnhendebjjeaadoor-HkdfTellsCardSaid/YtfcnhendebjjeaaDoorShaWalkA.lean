/- Walks: RotateLeft32, right, turned. -/
import Derived.Test.YtfcnhendebjjeaaDoorChecked
import Derived.Test.YtfcnhendebjjeaaDoorShaMem
import Derived.WalkSpells
import Derived.WalkLawsBesides
import Derived.RegionTactic
import Derived.BigRegion
import Derived.BigQuiet
import Derived.Deep.QuietTactic
import Derived.Outline
import Derived.Lib.Hide
import Derived.StillTailTactics
namespace Go.Proofs.YtfcnhendebjjeaaDoor.Sha
set_option linter.all false
open Go.RowKit

theorem wrapneg (k : Nat) (h : 1 ≤ k) (h' : k ≤ 31) : IntKind.u64.wrap (-(k : Int)) = ((18446744073709551616 - k : Nat) : Int) := by
  rw [IntKind.wrap_u64]; omega
theorem and31 (k : Nat) (h : 1 ≤ k) (h' : k ≤ 31) : bits .and .u64 ((18446744073709551616 - k : Nat) : Int) 31 = ((32 - k : Nat) : Int) := by
  have := u64_and_nat (18446744073709551616 - k) 31 (by omega) (by omega)
  have e : (18446744073709551616 - k) &&& 31 = 32 - k := by
    have := Nat.and_two_pow_sub_one_eq_mod (18446744073709551616 - k) 5
    have e2 : (2 : Nat) ^ 5 - 1 = 31 := rfl
    rw [e2] at this
    rw [this]; omega
  rw [e] at this
  exact this
theorem wrapmul (x k : Nat) : IntKind.u32.wrap ((x : Int) * 2 ^ k) = ((x * 2 ^ k % 4294967296 : Nat) : Int) := by
  rw [IntKind.wrap_u32]; simp
theorem rotr_bits (x k : Nat) (hx : x < 4294967296) (hk : k ≤ 31) : bits .or .u32 ((x : Int) * 2 ^ (32 - k) % 4294967296) ((x : Int) / 2 ^ (32 - (32 - k))) = ((rotr x k : Nat) : Int) := by
  rw [← IntKind.wrap_u32, wrapmul, show 32 - (32 - k) = k by omega]
  have h : ((x : Int) / 2 ^ k) = ((x / 2 ^ k : Nat) : Int) := by simp
  rw [h, u32_or_nat _ _ (Nat.mod_lt _ (by omega)) (Nat.lt_of_le_of_lt (Nat.div_le_self _ _) hx)]
  rfl
theorem xor_bits {a d : Nat} (h : a < 4294967296) (h' : d < 4294967296) : bits .xor .u32 (a : Int) (d : Int) = ((a ^^^ d : Nat) : Int) := u32_xor_nat _ _ h h'

set_option maxHeartbeats 400000 in
theorem rot_any (x k : Nat) (w : World) (hx : x < 4294967296) (hk : 1 ≤ k) (hk' : k ≤ 31) :
    Calls Tryd.prog 45 #[.int .u32 x, .int .i64 (-(k : Int))] w fun e w' => e = .returned (.int .u32 (rotr x k : Nat)) ∧ w = w' := by
  have hw := wrapneg k hk hk'
  have ha := and31 k hk hk'
  have hr := rotr_bits x k hx hk'
  go_enter Tryd.func45, Tryd.ntmps45
  go_wp2
  go_ret
  exact ⟨rfl, rfl⟩

set_option maxHeartbeats 400000 in
theorem right_any (x k : Nat) (w : World) (hx : x < 4294967296) (hk : 1 ≤ k) (hk' : k ≤ 31) :
    Calls Tryd.prog 44 #[.int .u32 x, .int .i64 k] w fun e w' => e = .returned (.int .u32 (rotr x k : Nat)) ∧ w' = w := by
  go_enter Tryd.func44, Tryd.ntmps44
  go_wp2_with fail
  refine (rot_any x k _ hx hk hk').mono ?_
  rintro e' w' ⟨rfl, rfl⟩
  go_wp2
  go_ret
  exact ⟨rfl, rfl⟩
theorem turned_bits {x : Nat} (a b c : Nat) (hx : x < 4294967296) : bits .xor .u32 (bits .xor .u32 ((rotr x a : Nat) : Int) ((rotr x b : Nat) : Int)) ((rotr x c : Nat) : Int) = ((turned x a b c : Nat) : Int) := by
  rw [u32_xor_nat _ _ (rotr_lt _ _ hx) (rotr_lt _ _ hx), u32_xor_nat _ _ (xor_lt (rotr_lt _ _ hx) (rotr_lt _ _ hx)) (rotr_lt _ _ hx)]; rfl
set_option maxHeartbeats 400000 in
theorem turned_any (x a b c : Nat) (w : World) (hx : x < 4294967296) (ha : 1 ≤ a) (ha' : a ≤ 31) (hb : 1 ≤ b) (hb' : b ≤ 31) (hc : 1 ≤ c) (hc' : c ≤ 31) :
    Calls Tryd.prog 43 #[.int .u32 x, .int .i64 a, .int .i64 b, .int .i64 c] w fun e w' => e = .returned (.int .u32 (turned x a b c : Nat)) ∧ w' = w := by
  have hbits := turned_bits a b c hx
  go_enter Tryd.func43, Tryd.ntmps43
  go_wp2_with fail
  refine (right_any x a _ hx ha ha').mono ?_
  rintro e' w' ⟨rfl, rfl⟩
  go_wp2_with fail
  refine (right_any x b _ hx hb hb').mono ?_
  rintro e' w' ⟨rfl, rfl⟩
  go_wp2_with fail
  refine (right_any x c _ hx hc hc').mono ?_
  rintro e' w' ⟨rfl, rfl⟩
  go_wp2
  go_ret
  exact ⟨rfl, rfl⟩

end Go.Proofs.YtfcnhendebjjeaaDoor.Sha
