/- Walks: RotateLeft64, add, byteAt. -/
import Derived.Test.YtdkhiooiakdecaaDoorRChecked
import Derived.Test.YtdkhiooiakdecaaDoorRKecMem
import Derived.WalkSpells
import Derived.WalkLawsBesides
import Derived.RegionTactic
import Derived.BigRegion
import Derived.BigQuiet
import Derived.Deep.QuietTactic
import Derived.Outline
import Derived.Lib.Hide
namespace Go.Proofs.YtdkhiooiakdecaaDoorR.Kec
set_option linter.all false
open Go.RowKit

theorem and63 (k : Nat) (h : k < 64) : bits .and .u64 (k : Int) 63 = (k : Int) := by
  have := u64_and_nat k 63 (by omega) (by omega)
  have e : k &&& 63 = k := by rw [nat_mask6]; omega
  rw [e] at this
  exact this
theorem wrapmul (x k : Nat) : IntKind.u64.wrap ((x : Int) * 2 ^ k) = ((x * 2 ^ k % 18446744073709551616 : Nat) : Int) := by
  rw [IntKind.wrap_u64]; simp
theorem rotl_bits (x k : Nat) (hx : x < 18446744073709551616) : bits .or .u64 (IntKind.u64.wrap ((x : Int) * 2 ^ k)) ((x : Int) / 2 ^ (64 - k)) = ((rotl x k : Nat) : Int) := by
  rw [wrapmul]
  have h : ((x : Int) / 2 ^ (64 - k)) = ((x / 2 ^ (64 - k) : Nat) : Int) := by simp
  rw [h, u64_or_nat _ _ (Nat.mod_lt _ (by omega)) (Nat.lt_of_le_of_lt (Nat.div_le_self _ _) hx)]
  rfl
theorem byteAt_bits (ws : List Nat) (i : Nat) : ((gt ws (i / 8) : Nat) : Int) / 2 ^ (8 * (i % 8)) % 256 = ((byteAt ws i : Nat) : Int) := by
  unfold byteAt; simp
theorem layw_bits (ws : List Nat) (i v : Nat) (hO : Ok ws) : bits .xor .u64 ((gt ws (i / 8) : Nat) : Int) (IntKind.u64.wrap ((v : Int) * 2 ^ (8 * (i % 8)))) = ((layw ws i v : Nat) : Int) := by
  rw [wrapmul, u64_xor_nat _ _ (hO.2 _) (Nat.mod_lt _ (by omega))]
  rfl
theorem rotl_zero (x : Nat) (hx : x < 18446744073709551616) : rotl x 0 = x := by
  unfold rotl
  have h : x / 2 ^ (64 - 0) = 0 := Nat.div_eq_of_lt hx
  rw [h, Nat.or_zero]
  simp only [Nat.pow_zero, Nat.mul_one]
  omega

set_option maxHeartbeats 400000 in
theorem rot_any (x k : Nat) (w : World) (hx : x < 18446744073709551616) (hk : k < 64) :
    Calls Tryd.prog 68 #[.int .u64 x, .int .i64 k] w fun e w' => e = .returned (.int .u64 (rotl x k : Nat)) ∧ w = w' := by
  have h63 := and63 k hk
  have hr := rotl_bits x k hx
  go_enter Tryd.func68, Tryd.ntmps68
  go_wp2
  go_ret
  exact ⟨rfl, rfl⟩

set_option maxHeartbeats 400000 in
theorem add_any (b t n o i v : Nat) (f : Nat → Value) (ws : List Nat) (w : World) (hi : i < 200) (hv : v < 256) (hS : St w b t n f o ws) (hO : Ok ws) :
    Calls Tryd.prog 47 #[.pointer (some ⟨b, o, none⟩), .int .i64 i, .int .u8 v] w fun e w' => e = .returned (.tuple #[]) ∧ St w' b t n f o (lay ws i v) ∧ w.grownBy w' (some b) := by
  have hc := hS.cell (i / 8) (by omega)
  have hf := hS.frozen (o + i / 8)
  have hxr := layw_bits ws i v hO
  have HS := Lib.hid hS; clear hS
  have HO := Lib.hid hO; clear hO
  go_enter Tryd.func47, Tryd.ntmps47
  go_wp2
  go_region
  go_end0
  exact ⟨rfl, (St.set HS.out HO.out.1 (i / 8) (layw ws i v) (by omega)).drew, only_drew (only_set (World.grownBy.refl _ _) (.inl rfl) _)⟩

set_option maxHeartbeats 400000 in
theorem byteAt_any (b t n o i : Nat) (f : Nat → Value) (ws : List Nat) (w : World) (hi : i < 200) (hS : St w b t n f o ws) :
    Calls Tryd.prog 51 #[.pointer (some ⟨b, o, none⟩), .int .i64 i] w fun e w' => e = .returned (.int .u8 (byteAt ws i : Nat)) ∧ w = w' := by
  have hc := hS.cell (i / 8) (by omega)
  have hb := byteAt_bits ws i
  clear hS
  go_enter Tryd.func51, Tryd.ntmps51
  go_wp2
  go_ret
  exact ⟨rfl, rfl⟩

end Go.Proofs.YtdkhiooiakdecaaDoorR.Kec
