/- The document's own: turned, constants. -/
import Derived.Test.YtfcnhendebjjeaaDoorShaKit
import Derived.Test.YtfcnhendebjjeaaDoorShaRefPlain
namespace Go.Proofs.YtfcnhendebjjeaaDoor.Sha
set_option linter.all false
open Go.RowKit

theorem rrot_bits (x k j : Nat) (hx : x < 4294967296) (hj : j + k = 32) : bits .or .u32 ((x : Int) / 2 ^ k) ((x : Int) * 2 ^ j % 4294967296) = ((rotr x k : Nat) : Int) := by
  rw [← IntKind.wrap_u32, wrapmul]
  have h : ((x : Int) / 2 ^ k) = ((x / 2 ^ k : Nat) : Int) := by simp
  rw [h, u32_or_nat _ _ (Nat.lt_of_le_of_lt (Nat.div_le_self _ _) hx) (Nat.mod_lt _ (by omega)), Nat.or_comm, show j = 32 - k by omega]
  rfl

set_option maxHeartbeats 400000 in
theorem rturned_any (x k : Nat) (w : World) (hx : x < 4294967296) (hk : 1 ≤ k) (hk' : k ≤ 31) :
    Calls Tryd.prog 38 #[.int .u32 x, .int .i64 k] w fun e w' => e = .returned (.int .u32 (rotr x k : Nat)) ∧ ∃ n, w' = w.drewN n := by
  obtain ⟨j, hj, hj'⟩ : ∃ j : Nat, j + k ≤ 32 ∧ 32 ≤ j + k := ⟨32 - k, by omega, by omega⟩
  have hb := rrot_bits x k j hx (by omega)
  have hb2 : bits .or .u32 ((x : Int) / 2 ^ k) (IntKind.u32.wrap ((x : Int) * 2 ^ j)) = ((rotr x k : Nat) : Int) := by rw [IntKind.wrap_u32]; exact hb
  have x1 : IntKind.i64.wrap (32 - (k : Int)) = (j : Int) := by rw [IntKind.wrap_i64]; omega
  have x2 : (32 : Int) - (k : Int) = (j : Int) := by omega
  have y1 : min k 32 = k := by omega
  have y2 : min j 32 = j := by omega
  have y3 : ¬ (k : Int) < 0 := by omega
  have y4 : ¬ (j : Int) < 0 := by omega
  go_enter Tryd.func38, Tryd.ntmps38
  go_wp2
  go_quiet (fail)
  go_wp2
  go_ret
  exact ⟨rfl, _, rfl⟩

def z64 : List Nat := tab 64 fun _ => 0
theorem z64_len : z64.length = 64 := tab_len _ _
set_option maxHeartbeats 1000000 in
set_option maxRecDepth 100000 in
theorem rconsts_any (w : World) : Calls Tryd.prog 37 #[] w fun e w' => e = .returned (.agg (numsOf .u32 consT)) ∧ Below w.heap.size w w' := by
  have hi : (Tryd.prog.info? 55).map (·.size) = some (numsOf .u32 consT).size := by kernel_rfl
  have HI := Lib.hid hi; clear hi
  have HZM := Lib.hid (show (numsOf .u32 z64).size = (numsOf .u32 consT).size by rw [numsOf_size, numsOf_size, z64_len]; rfl)
  go_enter Tryd.func37, Tryd.ntmps37
  go_wp2_with (refine wpList_store_row rfl 55 (.tmp 0) (.tmp 1) rfl w.heap.size (numsOf .u32 consT) rfl rfl 55 (numsOf .u32 z64) (heap_alloc_last w _) HI.out HZM.out (numsOf_one _ _) ?_)
  refine bodyPost_ret (v := .agg (numsOf .u32 consT)) (results_cell_row (p := 0) (ty := 55) (by kernel_rfl) _ _ w.heap.size 55 (numsOf .u32 consT) (0, 0) _ rfl (setRow_heap _ _ _ _ _ _ (heap_alloc_last w _)) Tryd.underlying55 rfl HI.out) rfl ⟨rfl, below_setRow ((Below.refl _ _).alloc (Nat.le_refl _) _) (Nat.le_refl _) _⟩

end Go.Proofs.YtfcnhendebjjeaaDoor.Sha
