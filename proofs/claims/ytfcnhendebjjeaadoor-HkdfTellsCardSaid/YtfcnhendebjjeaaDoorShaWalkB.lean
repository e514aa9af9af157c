/- Walks: wordsOf. -/
import Derived.Test.YtfcnhendebjjeaaDoorShaWalkA
namespace Go.Proofs.YtfcnhendebjjeaaDoor.Sha
set_option linter.all false
open Go.RowKit

theorem pack_bits {ws : List Nat} (h : Ok 4294967296 64 ws) (i v : Nat) (hv : v < 256) : bits .or .u32 (((gt ws (i / 4) : Nat) : Int) * 256 % 4294967296) (v : Int) = ((packw ws i v : Nat) : Int) := by
  have e : (((gt ws (i / 4) : Nat) : Int) * 256 % 4294967296) = ((gt ws (i / 4) * 256 % 4294967296 : Nat) : Int) := by simp
  rw [e, u32_or_nat _ _ (Nat.mod_lt _ (by omega)) (by omega)]; rfl
theorem sig0_bits {x : Nat} (hx : x < 4294967296) : bits .xor .u32 (bits .xor .u32 ((rotr x 7 : Nat) : Int) ((rotr x 18 : Nat) : Int)) ((x : Int) / 8) = ((sig0 x : Nat) : Int) := by
  have e : ((x : Int) / 8) = ((x / 8 : Nat) : Int) := by simp
  rw [e, u32_xor_nat _ _ (rotr_lt _ _ hx) (rotr_lt _ _ hx), u32_xor_nat _ _ (xor_lt (rotr_lt _ _ hx) (rotr_lt _ _ hx)) (by omega)]; rfl
theorem sig1_bits {x : Nat} (hx : x < 4294967296) : bits .xor .u32 (bits .xor .u32 ((rotr x 17 : Nat) : Int) ((rotr x 19 : Nat) : Int)) ((x : Int) / 1024) = ((sig1 x : Nat) : Int) := by
  have e : ((x : Int) / 1024) = ((x / 1024 : Nat) : Int) := by simp
  rw [e, u32_xor_nat _ _ (rotr_lt _ _ hx) (rotr_lt _ _ hx), u32_xor_nat _ _ (xor_lt (rotr_lt _ _ hx) (rotr_lt _ _ hx)) (by omega)]; rfl
theorem wsub (k m d : Nat) (h : d + m ≤ k) (h' : k ≤ d + m) (h2 : k ≤ 64) : IntKind.i64.wrap ((k : Int) - (m : Int)) = (d : Int) := by
  rw [IntKind.wrap_i64]; omega
theorem right_7 (x : Nat) (w : World) (hx : x < 4294967296) : Calls Tryd.prog 44 #[.int .u32 x, .int .i64 7] w fun e w' => e = .returned (.int .u32 (rotr x 7 : Nat)) ∧ w' = w := right_any x 7 w hx (by omega) (by omega)
theorem right_18 (x : Nat) (w : World) (hx : x < 4294967296) : Calls Tryd.prog 44 #[.int .u32 x, .int .i64 18] w fun e w' => e = .returned (.int .u32 (rotr x 18 : Nat)) ∧ w' = w := right_any x 18 w hx (by omega) (by omega)
theorem right_17 (x : Nat) (w : World) (hx : x < 4294967296) : Calls Tryd.prog 44 #[.int .u32 x, .int .i64 17] w fun e w' => e = .returned (.int .u32 (rotr x 17 : Nat)) ∧ w' = w := right_any x 17 w hx (by omega) (by omega)
theorem right_19 (x : Nat) (w : World) (hx : x < 4294967296) : Calls Tryd.prog 44 #[.int .u32 x, .int .i64 19] w fun e w' => e = .returned (.int .u32 (rotr x 19 : Nat)) ∧ w' = w := right_any x 19 w hx (by omega) (by omega)
theorem zrow (ty : TypeId) (w : World) : (w.alloc (.cells (numsOf .u32 (tab 64 fun _ => 0)) ty)).rowIs w.heap.size ty 64 (wordRow .u32 (tab 64 fun _ => 0)) :=
  rowIs_words (heap_alloc_last w _) (tab_len _ _)

set_option maxHeartbeats 1000000 in
set_option maxRecDepth 100000 in
theorem words_to (g o : Nat) (b out : List Nat) (w : World) (HW : Hid (Unit → wordsOf b = out)) (hO : Ok 256 64 b) (hlt : g < w.heap.size) (hc : ∀ i, i < 64 → w.cell? ⟨g, o + i, none⟩ = some (.int .u8 (gt b i : Nat))) :
    Calls Tryd.prog 42 #[.pointer (some ⟨g, o, none⟩)] w fun e w' => e = .returned (.agg (numsOf .u32 out)) ∧ Below w.heap.size w w' := by
  have HC := Lib.hid hc; have HO := Lib.hid hO; clear hc hO
  go_enter Tryd.func42, Tryd.ntmps42
  go_wp2
  go_loopw [10] (fun i W => ∃ k : Nat, k ≤ 64 ∧ i = .int .i64 k ∧ Hid (W.rowIs (w.heap.size + 1) 55 64 (wordRow .u32 (packTo b k))) ∧ Hid (W.rowIs w.heap.size 55 64 (wordRow .u32 (tab 64 fun _ => 0))) ∧ Hid (Below w.heap.size w W)) (fun i _ => 64 - (intOf i).toNat)
  case atStart =>
    have r1 := zrow 55 w
    have r2 := zrow 55 (w.alloc (.cells (numsOf .u32 (tab 64 fun _ => 0)) 55))
    have e : (w.alloc (.cells (numsOf .u32 (tab 64 fun _ => 0)) 55)).heap.size = w.heap.size + 1 := by simp
    rw [e] at r2
    exact ⟨0, by omega, rfl, Lib.hid r2, Lib.hid (r1.alloc _), Lib.hid (((Below.refl _ _).alloc (Nat.le_refl _) _).alloc (by simp) _)⟩
  case round =>
    obtain ⟨k, hk, rfl, HR1, HZ1, HB1⟩ := hrel
    by_cases hk64 : k < 64
    · have c0 : wr.cell? ⟨g, o + k, none⟩ = some (.int .u8 (gt b k : Nat)) := by rw [HB1.out.cell (by show g < w.heap.size; omega)]; exact HC.out k hk64
      have hv := HO.out.2 k
      have hok := ok_packTo HO.out k hk
      have hs : packTo b (k + 1) = (packTo b k).set (k / 4) (packw (packTo b k) k (gt b k)) := rfl
      generalize packTo b k = ws at *
      have d0 := HR1.out.cell (i := k / 4) (by omega)
      have d1 := HR1.out.frozen (k / 4)
      have hbits := pack_bits hok k (gt b k) hv
      have HS := Lib.hid hs; have HOK := Lib.hid hok; clear hs hok
      unfold wordRow at d0
      go_wp2
      go_region
      go_wp2
      go_roundw
      case rel =>
        exact ⟨k + 1, by omega, by go_num, Lib.hid (by rw [HS.out]; exact row_set HR1.out.drew HOK.out.1 _ _ (by omega)), Lib.hid (HZ1.out.setOther (by show w.heap.size ≠ w.heap.size + 1; omega) _).drew, Lib.hid (HB1.out.setCell (by show w.heap.size ≤ w.heap.size + 1; omega) _).drew⟩
      case measure => simp [intOf]; omega
    · obtain rfl : k = 64 := by omega
      clear hk hk64
      have hok0 := ok_packTo HO.out 64 (Nat.le_refl _)
      have hw0 : Unit → moreTo (packTo b 64) 48 = out := HW.out
      clear HW
      generalize packTo b 64 = p at *
      have HW0 := Lib.hid hw0; have HOK0 := Lib.hid hok0; clear hw0 hok0
      rw [show (((64 : Nat) : Int)) = 64 from rfl]
      go_wp2
      go_loopw [6] (fun i W => ∃ k j : Nat, j ≤ 48 ∧ j + 16 ≤ k ∧ k ≤ j + 16 ∧ i = .int .i64 (k : Nat) ∧ Hid (W.rowIs (w.heap.size + 1) 55 64 (wordRow .u32 (moreTo p j))) ∧ Hid (W.rowIs w.heap.size 55 64 (wordRow .u32 (tab 64 fun _ => 0))) ∧ Hid (Below w.heap.size w W)) (fun i _ => 64 - (intOf i).toNat)
      case atStart => exact ⟨16, 0, by omega, by omega, by omega, rfl, HR1, HZ1, HB1⟩
      case round =>
        obtain ⟨k, j, hj, hjk, hkj, rfl, HR2, HZ2, HB2⟩ := hrel
        by_cases hk48 : k < 64
        · have hok := ok_moreTo HOK0.out j hj
          have hs : moreTo p (j + 1) = (moreTo p j).set (j + 16) (nextw (moreTo p j) j) := rfl
          generalize moreTo p j = ws at *
          obtain ⟨k16, e16, f16, l16⟩ : ∃ d : Nat, d + 16 ≤ k ∧ k ≤ d + 16 ∧ d < 64 := ⟨k - 16, by omega, by omega, by omega⟩
          obtain ⟨k15, e15, f15, l15⟩ : ∃ d : Nat, d + 15 ≤ k ∧ k ≤ d + 15 ∧ d < 64 := ⟨k - 15, by omega, by omega, by omega⟩
          obtain ⟨k7, e7, f7, l7⟩ : ∃ d : Nat, d + 7 ≤ k ∧ k ≤ d + 7 ∧ d < 64 := ⟨k - 7, by omega, by omega, by omega⟩
          obtain ⟨k2, e2, f2, l2⟩ : ∃ d : Nat, d + 2 ≤ k ∧ k ≤ d + 2 ∧ d < 64 := ⟨k - 2, by omega, by omega, by omega⟩
          have d0 := HR2.out.cell (i := k16) (by omega)
          have d1 := HR2.out.cell (i := k15) (by omega)
          have d2 := HR2.out.cell (i := k7) (by omega)
          have d3 := HR2.out.cell (i := k2) (by omega)
          have d4 := HR2.out.cell (i := k) (by omega)
          have d5 := HR2.out.frozen k
          have b0 := sig0_bits (hok.2 k15)
          have b1 := sig1_bits (hok.2 k2)
          have HS := Lib.hid hs; have HOK := Lib.hid hok; clear hs hok
          have x16 : IntKind.i64.wrap ((k : Int) - 16) = (k16 : Int) := wsub k 16 k16 e16 f16 (by omega)
          have x15 : IntKind.i64.wrap ((k : Int) - 15) = (k15 : Int) := wsub k 15 k15 e15 f15 (by omega)
          have x7 : IntKind.i64.wrap ((k : Int) - 7) = (k7 : Int) := wsub k 7 k7 e7 f7 (by omega)
          have x2 : IntKind.i64.wrap ((k : Int) - 2) = (k2 : Int) := wsub k 2 k2 e2 f2 (by omega)
          have y16 : (k16 : Int) < 64 := by omega
          have y15 : (k15 : Int) < 64 := by omega
          have y7 : (k7 : Int) < 64 := by omega
          have y2 : (k2 : Int) < 64 := by omega
          have y0 : (k : Int) < 64 := by omega
          unfold wordRow at d0 d1 d2 d3 d4
          go_wp2
          refine wp_region_still_tail 17 (by kernel_rfl) (by kernel_rfl) ?_
          simp only [List.take_succ_cons, List.take_zero, List.drop_succ_cons, List.drop_zero]
          repeat still_step
          still_call (right_7 _ _ (HOK.out.2 _))
          repeat still_step
          still_call (right_18 _ _ (HOK.out.2 _))
          repeat still_step
          refine wpStill_nil ?_
          change wpList _ _ _ _ _ wr.drew
          replace HR2 := Lib.hid HR2.out.drew
          replace HZ2 := Lib.hid HZ2.out.drew
          replace HB2 := Lib.hid HB2.out.drew
          clear d0 d1 d2 d3 d4 d5
          generalize wr.drew = w1 at *
          have d0 := HR2.out.cell (i := k16) (by omega)
          have d1 := HR2.out.cell (i := k15) (by omega)
          have d2 := HR2.out.cell (i := k7) (by omega)
          have d3 := HR2.out.cell (i := k2) (by omega)
          have d4 := HR2.out.cell (i := k) (by omega)
          have d5 := HR2.out.frozen k
          unfold wordRow at d0 d1 d2 d3 d4
          go_wp2
          refine wp_region_still_tail 17 (by kernel_rfl) (by kernel_rfl) ?_
          simp only [List.take_succ_cons, List.take_zero, List.drop_succ_cons, List.drop_zero]
          repeat still_step
          still_call (right_17 _ _ (HOK.out.2 _))
          repeat still_step
          still_call (right_19 _ _ (HOK.out.2 _))
          repeat still_step
          refine wpStill_nil ?_
          change wpList _ _ _ _ _ w1.drew
          replace HR2 := Lib.hid HR2.out.drew
          replace HZ2 := Lib.hid HZ2.out.drew
          replace HB2 := Lib.hid HB2.out.drew
          clear d0 d1 d2 d3 d4 d5
          generalize w1.drew = w2 at *
          have d0 := HR2.out.cell (i := k16) (by omega)
          have d1 := HR2.out.cell (i := k15) (by omega)
          have d2 := HR2.out.cell (i := k7) (by omega)
          have d3 := HR2.out.cell (i := k2) (by omega)
          have d4 := HR2.out.cell (i := k) (by omega)
          have d5 := HR2.out.frozen k
          unfold wordRow at d0 d1 d2 d3 d4
          go_wp2
          go_region
          go_wp2
          go_roundw
          case rel =>
            refine ⟨k + 1, j + 1, by omega, by omega, by omega, by go_num, Lib.hid ?_, Lib.hid (HZ2.out.setOther (by show w.heap.size ≠ w.heap.size + 1; omega) _).drew, Lib.hid (HB2.out.setCell (by show w.heap.size ≤ w.heap.size + 1; omega) _).drew⟩
            rw [HS.out]
            refine row_setZ HR2.out.drew HOK.out.1 (j + 16) (nextw ws j) (by omega) (by omega) ?_
            have q16 : k16 = j := by omega
            have q15 : k15 = j + 1 := by omega
            have q7 : k7 = j + 9 := by omega
            have q2 : k2 = j + 14 := by omega
            unfold nextw add
            rw [q16, q15, q7, q2]
            omega
          case measure => simp [intOf]; omega
        · obtain rfl : j = 48 := by omega
          have hl : (moreTo p 48).length = 64 := (ok_moreTo HOK0.out 48 (Nat.le_refl _)).1
          rw [HW0.out ()] at HR2 hl
          clear HW0 HOK0
          have hc := heap_words HR2.out hl
          have hz := heap_words HZ2.out (tab_len _ _)
          have hi : (Tryd.prog.info? 55).map (·.size) = some (numsOf .u32 out).size := by rw [numsOf_size, hl]; kernel_rfl
          have hzm : (numsOf .u32 (tab 64 fun _ => 0)).size = (numsOf .u32 out).size := by rw [numsOf_size, numsOf_size, tab_len, hl]
          have HC2 := Lib.hid hc; have HZ := Lib.hid hz; have HZM := Lib.hid hzm; have HI := Lib.hid hi; clear hc hz hl hi hzm
          go_wp2_with (first | (refine wpList_load_row rfl 55 (.tmp 3) rfl (w.heap.size + 1) rfl 55 (numsOf .u32 out) (0, 0) _ HC2.out Tryd.underlying55 rfl HI.out ?_) | (refine wpList_store_row rfl 55 (.tmp 2) (.tmp 81) rfl w.heap.size (numsOf .u32 out) rfl rfl 55 (numsOf .u32 (tab 64 fun _ => 0)) HZ.out HI.out HZM.out (numsOf_one _ _) ?_))
          refine bodyPost_ret (v := .agg (numsOf .u32 out)) (results_cell_row (p := 2) (ty := 55) (by kernel_rfl) _ _ w.heap.size 55 (numsOf .u32 out) (0, 0) _ rfl (setRow_heap _ _ _ _ _ _ HZ.out) Tryd.underlying55 rfl HI.out) rfl ⟨rfl, below_setRow HB2.out (Nat.le_refl _) _⟩

theorem words_any (g o : Nat) (b : List Nat) (w : World) (hO : Ok 256 64 b) (hlt : g < w.heap.size) (hc : ∀ i, i < 64 → w.cell? ⟨g, o + i, none⟩ = some (.int .u8 (gt b i : Nat))) :
    Calls Tryd.prog 42 #[.pointer (some ⟨g, o, none⟩)] w fun e w' => e = .returned (.agg (numsOf .u32 (wordsOf b))) ∧ Below w.heap.size w w' :=
  words_to g o b _ w (Lib.hid fun _ => rfl) hO hlt hc
end Go.Proofs.YtfcnhendebjjeaaDoor.Sha
