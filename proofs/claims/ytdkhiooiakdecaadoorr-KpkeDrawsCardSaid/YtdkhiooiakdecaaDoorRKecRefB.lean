/- Walks of the document's own: constants. -/
import Derived.Test.YtdkhiooiakdecaaDoorRKecRefA
namespace Go.Proofs.YtdkhiooiakdecaaDoorR.Kec
set_option linter.all false
open Go.RowKit

theorem i64_xor_small (a b : Nat) (ha : a < 1024) (hb : b < 1024) : bits .xor .i64 (a : Int) (b : Int) = ((a ^^^ b : Nat) : Int) := by
  have hx : a ^^^ b < 2 ^ 10 := Nat.xor_lt_two_pow (by omega) (by omega)
  have oa : (BitVec.ofInt 64 (a : Int)).toNat = a := by rw [BitVec.ofInt_natCast, BitVec.toNat_ofNat]; exact Nat.mod_eq_of_lt (by omega)
  have ob : (BitVec.ofInt 64 (b : Int)).toNat = b := by rw [BitVec.ofInt_natCast, BitVec.toNat_ofNat]; exact Nat.mod_eq_of_lt (by omega)
  show IntKind.i64.wrap ((BitVec.ofInt 64 (a : Int) ^^^ BitVec.ofInt 64 (b : Int)).toNat : Int) = _
  rw [BitVec.toNat_xor, oa, ob, IntKind.wrap_i64]
  omega

theorem xor369 (r : Nat) (h : r < 256) : bits .xor .i64 ((r : Int) * 2) 369 = (((r * 2) ^^^ 369 : Nat) : Int) := by
  have := i64_xor_small (r * 2) 369 (by omega) (by omega)
  rw [← this]; simp
theorem shl_one (j : Nat) (h : j < 7) : IntKind.u64.wrap ((2 : Int) ^ min (IntKind.u64.wrap (IntKind.u64.wrap ((2 : Int) ^ j) - 1)).toNat 64) = ((2 ^ (2 ^ j - 1) : Nat) : Int) :=
  (by decide +kernel : ∀ j : Fin 7, IntKind.u64.wrap ((2 : Int) ^ min (IntKind.u64.wrap (IntKind.u64.wrap ((2 : Int) ^ j.1) - 1)).toNat 64) = ((2 ^ (2 ^ j.1 - 1) : Nat) : Int)) ⟨j, h⟩
theorem pow_lt (j : Nat) (h : j < 7) : 2 ^ (2 ^ j - 1) < 18446744073709551616 :=
  (by decide +kernel : ∀ j : Fin 7, 2 ^ (2 ^ j.1 - 1) < 18446744073709551616) ⟨j, h⟩
def orw (x j : Nat) : Nat := x ||| 2 ^ (2 ^ j - 1)
theorem or_bits (x j : Nat) (hx : x < 18446744073709551616) (h : j < 7) : bits .or .u64 (x : Int) (IntKind.u64.wrap ((2 : Int) ^ min (IntKind.u64.wrap (IntKind.u64.wrap ((2 : Int) ^ j) - 1)).toNat 64)) = ((orw x j : Nat) : Int) := by
  rw [shl_one j h, u64_or_nat _ _ hx (pow_lt j h)]; rfl
theorem rl_lt : ∀ n i, gt (rlTo n) i < 18446744073709551616
  | 0, i => by
    show gt zeros24 i < _
    have : gt zeros24 i = 0 := by
      by_cases h : i < 24
      · unfold gt zeros24
        rw [List.getD_eq_getElem?_getD, List.getElem?_map, List.getElem?_range h]; rfl
      · exact gt_ge _ _ (by simp [zeros24]; omega)
    omega
  | n + 1, i => by
    show gt (rlStep (rlTo n) n) i < _
    unfold rlStep
    split
    · by_cases h : n / 7 < 24
      · rw [gt_set _ _ _ _ (by rw [rlTo_len]; exact h)]
        split
        · exact or_lt (rl_lt n _) (pow_lt _ (Nat.mod_lt _ (by omega)))
        · exact rl_lt n i
      · rw [List.set_eq_of_length_le (by rw [rlTo_len]; omega)]
        exact rl_lt n i
    · exact rl_lt n i

set_option maxHeartbeats 2000000 in
set_option maxRecDepth 100000 in
theorem rconsts_any (w : World) : Calls Tryd.prog 66 #[] w fun e w' => e = .returned (.agg (numsOf .u64 roundsT)) ∧ Below w.heap.size w w' := by
  go_enter Tryd.func66, Tryd.ntmps66
  go_wp2
  go_loopw [2, 3] (fun r i W => ∃ k : Nat, k ≤ 24 ∧ i = .int .i64 k ∧ r = .int .i64 (rcTo (7 * k) : Nat) ∧ Hid (W.rowIs (w.heap.size + 1) 76 24 (nums .u64 (rlTo (7 * k)))) ∧ Hid (W.rowIs w.heap.size 76 24 (nums .u64 zeros24)) ∧ Hid (Below w.heap.size w W)) (fun _ i _ => 24 - (intOf i).toNat)
  case atStart =>
    have z : ∀ i, i < (numsOf .u64 zeros24).size → (numsOf .u64 zeros24)[i]? = some (nums .u64 zeros24 i) := fun i hi => numsOf_at .u64 zeros24 i (by simpa [numsOf] using hi)
    have r1 := World.rowIs_alloc w (numsOf .u64 zeros24) 76 (nums .u64 zeros24) z
    have r2 := World.rowIs_alloc (w.alloc (.cells (numsOf .u64 zeros24) 76)) (numsOf .u64 zeros24) 76 (nums .u64 zeros24) z
    have e : (w.alloc (.cells (numsOf .u64 zeros24) 76)).heap.size = w.heap.size + 1 := by simp
    rw [e] at r2
    exact ⟨0, by omega, rfl, rfl, Lib.hid r2, Lib.hid (r1.alloc _), Lib.hid (((Below.refl _ _).alloc (Nat.le_refl _) _).alloc (by simp) _)⟩
  case round =>
    obtain ⟨k, hk, rfl, rfl, HR1, HZ1, HB1⟩ := hrel
    by_cases hlt : k < 24
    · go_wp2
      go_loopw [2, 4] (fun r i W => ∃ j : Nat, j ≤ 7 ∧ i = .int .i64 j ∧ r = .int .i64 (rcTo (7 * k + j) : Nat) ∧ Hid (W.rowIs (w.heap.size + 1) 76 24 (nums .u64 (rlTo (7 * k + j)))) ∧ Hid (W.rowIs w.heap.size 76 24 (nums .u64 zeros24)) ∧ Hid (Below w.heap.size w W)) (fun _ i _ => 7 - (intOf i).toNat)
      case atStart => exact ⟨0, by omega, rfl, rfl, HR1, HZ1, HB1⟩
      case round =>
        obtain ⟨j, hj, rfl, rfl, HR2, HZ2, HB2⟩ := hrel
        by_cases hlt7 : j < 7
        · have hrc := rc_lt (7 * k + j)
          have hnx : rcTo (7 * k + (j + 1)) = rcShift (rcTo (7 * k + j)) := rfl
          have hrl : rlTo (7 * k + (j + 1)) = if rcTo (7 * k + j) % 2 = 1 then (rlTo (7 * k + j)).set k (gt (rlTo (7 * k + j)) k ||| 2 ^ (2 ^ j - 1)) else rlTo (7 * k + j) := by
            show rlStep (rlTo (7 * k + j)) (7 * k + j) = _
            unfold rlStep
            rw [show (7 * k + j) / 7 = k by omega, show (7 * k + j) % 7 = j by omega]
          have hll := rlTo_len (7 * k + j)
          have hlt' := rl_lt (7 * k + j)
          generalize rcTo (7 * k + j) = r at *
          generalize rlTo (7 * k + j) = l at *
          have HNX := Lib.hid hnx; have HRL := Lib.hid hrl; have HLL := Lib.hid hll; have HLT := Lib.hid hlt'; clear hnx hrl hll hlt'
          have d0 : wr.cell? ⟨w.heap.size + 1, k, none⟩ = some (.int .u64 (gt l k : Nat)) := HR2.out.cell (i := k) hlt
          have d1 := HR2.out.frozen k
          have hor := or_bits (gt l k) j (HLT.out k) hlt7
          by_cases ho : r % 2 = 1
          · have ho' : ((r : Int) % 2 == 1) = true := by rw [beq_iff_eq]; omega
            have HO := Lib.hid ho; clear ho
            have HRL2 : Hid (rlTo (7 * k + (j + 1)) = l.set k (orw (gt l k) j)) := Lib.hid (by rw [HRL.out, if_pos HO.out]; rfl)
            go_wp2
            go_region
            go_wp2
            · go_roundw
              case rel =>
                have h256 : 256 ≤ r * 2 := by omega
                refine ⟨j + 1, by omega, by go_num, ?_, Lib.hid ?_, Lib.hid (HZ2.out.setOther (by show w.heap.size ≠ w.heap.size + 1; omega) _).drew, Lib.hid (HB2.out.setCell (by show w.heap.size ≤ w.heap.size + 1; omega) _).drew⟩
                · rw [HNX.out, rcShift, if_pos h256, xor369 r hrc]
                · rw [HRL2.out]; exact (nums_set HR2.out HLL.out k (orw (gt l k) j) hlt).drew
              case measure => simp [intOf]; omega
            · go_roundw
              case rel =>
                have h256 : ¬ 256 ≤ r * 2 := by omega
                refine ⟨j + 1, by omega, by go_num, ?_, Lib.hid ?_, Lib.hid (HZ2.out.setOther (by show w.heap.size ≠ w.heap.size + 1; omega) _).drew, Lib.hid (HB2.out.setCell (by show w.heap.size ≤ w.heap.size + 1; omega) _).drew⟩
                · rw [HNX.out, rcShift, if_neg h256]; simp
                · rw [HRL2.out]; exact (nums_set HR2.out HLL.out k (orw (gt l k) j) hlt).drew
              case measure => simp [intOf]; omega
          · have ho' : ((r : Int) % 2 == 1) = false := by rw [beq_eq_false_iff_ne]; omega
            have HO := Lib.hid ho; clear ho
            have HRL2 : Hid (rlTo (7 * k + (j + 1)) = l) := Lib.hid (by rw [HRL.out, if_neg HO.out])
            go_wp2
            · go_roundw
              case rel =>
                have h256 : 256 ≤ r * 2 := by omega
                refine ⟨j + 1, by omega, by go_num, ?_, Lib.hid ?_, HZ2, HB2⟩
                · rw [HNX.out, rcShift, if_pos h256, xor369 r hrc]
                · rw [HRL2.out]; exact HR2.out
              case measure => simp [intOf]; omega
            · go_roundw
              case rel =>
                have h256 : ¬ 256 ≤ r * 2 := by omega
                refine ⟨j + 1, by omega, by go_num, ?_, Lib.hid ?_, HZ2, HB2⟩
                · rw [HNX.out, rcShift, if_neg h256]; simp
                · rw [HRL2.out]; exact HR2.out
              case measure => simp [intOf]; omega
        · obtain rfl : j = 7 := by omega
          go_wp2
          go_roundw
          case rel => exact ⟨k + 1, by omega, by go_num, rfl, HR2, HZ2, HB2⟩
          case measure => simp [intOf]; omega
    · obtain rfl : k = 24 := by omega
      have h24 : rlTo (7 * 24) = roundsT := rlTo_all
      rw [h24] at HR1
      have hl : roundsT.length = 24 := by decide
      have hc := heap_nums HR1.out hl
      have hz := heap_nums HZ1.out (show zeros24.length = 24 by decide)
      generalize hm : roundsT = m at *
      have hi : (Tryd.prog.info? 76).map (·.size) = some (numsOf .u64 m).size := by rw [numsOf_size, hl]; kernel_rfl
      have hzm : (numsOf .u64 zeros24).size = (numsOf .u64 m).size := by rw [numsOf_size, numsOf_size, hl]; decide
      have HC := Lib.hid hc; have HZ := Lib.hid hz; have HZM := Lib.hid hzm; have HI := Lib.hid hi; have HM := Lib.hid hm; clear hc hz hl hi hzm h24 hm
      go_wp2_with (first | (refine wpList_load_row rfl 76 (.tmp 1) rfl (w.heap.size + 1) rfl 76 (numsOf .u64 m) (0, 0) _ HC.out Tryd.underlying76 rfl HI.out ?_) | (refine wpList_store_row rfl 76 (.tmp 0) (.tmp 32) rfl w.heap.size (numsOf .u64 m) rfl rfl 76 (numsOf .u64 zeros24) HZ.out HI.out HZM.out (numsOf_one _ _) ?_))
      refine bodyPost_ret (v := .agg (numsOf .u64 m)) (results_cell_row (p := 0) (ty := 76) (by kernel_rfl) _ _ w.heap.size 76 (numsOf .u64 m) (0, 0) _ rfl (setRow_heap _ _ _ _ _ _ HZ.out) Tryd.underlying76 rfl HI.out) rfl ⟨by rw [HM.out], below_setRow HB1.out (Nat.le_refl _) _⟩

end Go.Proofs.YtdkhiooiakdecaaDoorR.Kec
