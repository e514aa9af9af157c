/- Walks of the document's own: Decode. Written by tools/mk_kprdec.py. -/
import Derived.Test.YtdkhiooiakdecaaDoorRKpRefA
namespace Go.Proofs.YtdkhiooiakdecaaDoorR.Kp
set_option linter.all false
open Go.RowKit Iter Sm

theorem grp_part_lt (M d i k : Nat) (hk : k ≤ 12) : M / 2 ^ (d * i) % 2 ^ k < 4096 := Nat.lt_of_lt_of_le (Nat.mod_lt _ (Nat.two_pow_pos _)) (pow_le hk)
theorem bit_shl (b k : Nat) (hb : b < 2) (hk : k < 12) : 0 ≤ (b : Int) * 2 ^ k ∧ (b : Int) * 2 ^ k ≤ 2048 := by
  rw [pow_int, ← Int.natCast_mul]
  have h := Nat.mul_le_mul (show b ≤ 1 by omega) (pow_le (show k ≤ 11 by omega))
  omega
theorem rowfill_twice (i j k M : Nat) (x : Int) (hi : i < 256) : ints (fillp (fun i => ((brv k (grp k M i) : Nat) : Int)) (j + 1)) i = ints (fun l => if l = j then ((brv k (grp k M j) : Nat) : Int) else (if l = j then x else fillp (fun i => ((brv k (grp k M i) : Nat) : Int)) j l)) i := by
  unfold ints fillp
  dsimp only
  by_cases e : i = j
  · subst e; rw [if_pos rfl, if_pos (by omega)]
  · rw [if_neg e, if_neg e]
    by_cases h : i < j
    · rw [if_pos h, if_pos (by omega)]
    · rw [if_neg h, if_neg (by omega)]
set_option maxHeartbeats 4000000 in
set_option maxRecDepth 100000 in
theorem rdecode_ok (d : Nat) (A : Option Addr) (bs : List Nat) (n c : Nat) (w : World) (h1 : 1 ≤ d) (h2 : d < 12) (hR : Kec.Rd w w.heap.size A bs) (hn : bs.length = n) (hl : n = 32 * d) :
    Calls Tryd.prog 14 #[.int .i64 d, .slice A n c] w (PolyErr (fun i => ((brv d (grp d (num 8 (Kec.gt bs) n) i) : Nat) : Int)) 0 w) := by
  have hd12 : d ≤ 12 := by omega
  obtain ⟨Z, hz, hZ⟩ := zero_poly
  have HZ := Lib.hid hZ; have HR := Lib.hid hR; have HN := Lib.hid (fun _ : Unit => hn); have HL := Lib.hid (fun _ : Unit => hl)
  have hn100 : n ≤ 100000 := by omega
  have hne : ((n : Int) != 32 * (d : Int)) = false := by rw [bne_eq_false_iff_eq]; omega
  have hn8 : 8 * n = d * 256 := by omega
  have HN8 := Lib.hid (fun _ : Unit => hn8)
  obtain ⟨M, hM⟩ : ∃ M, num 8 (Kec.gt bs) n = M := ⟨_, rfl⟩
  have HBIT : Hid (∀ (t : Nat) (W : World), t < 8 * n → Kec.Rd W W.heap.size A bs → Calls Tryd.prog 25 #[.slice A n c, .int .i64 t] W fun e w' => e = .returned (.int .i64 (bt M t)) ∧ w' = W) := Lib.hid fun t W ht hRW => by
    have := rbit_any A bs n c t W hRW hn ht hn100
    rwa [hM] at this
  rw [hM]
  have e1 : (w.alloc (.cells Z 26)).heap.size = w.heap.size + 1 := by simp
  have g0 := (Below.heap_alloc (w.alloc (.cells Z 26)) (.cells Z 26) w.heap.size (by rw [e1]; omega)).trans (heap_alloc_last w (.cells Z 26))
  have g1 := heap_alloc_last (w.alloc (.cells Z 26)) (.cells Z 26)
  rw [e1] at g1
  have HG0 := Lib.hid g0; have HG1 := Lib.hid (row_of g1 (fillp_zero hZ fun i => ((brv d (grp d M i) : Nat) : Int)))
  have HB0 := Lib.hid (((Below.refl w.heap.size w).alloc (Nat.le_refl _) (.cells Z 26)).alloc (by simp) (.cells Z 26))
  have hdeq : ((d : Int) == 12) = false := by rw [beq_eq_false_iff_ne]; omega
  have hdne : ¬ ((d : Int) = 12) := by omega
  have hd13 : ¬ (12 < (d : Int)) := by omega
  have HD := Lib.hid (fun _ : Unit => h2)
  clear hZ hR hn hl hM e1 g0 g1 hn8 
  go_enter Tryd.func14, Tryd.ntmps14
  go_wp2_with fail
  rw [show decide ((d : Int) < 1) = false from decide_eq_false (by omega)]
  go_loopw [7] (fun i W => ∃ j : Nat, j ≤ 256 ∧ i = .int .i64 j ∧ Hid (W.rowIs (w.heap.size + 1) 26 256 (ints (fillp (fun i => ((brv d (grp d M i) : Nat) : Int)) j))) ∧ Hid (W.heap[w.heap.size]? = some (.cells Z 26 (0, 0))) ∧ Hid (Below w.heap.size w W)) (fun i _ => 256 - (intOf i).toNat)
  case atStart => exact ⟨0, by omega, rfl, HG1, HG0, HB0⟩
  case round =>
    obtain ⟨j, hj, rfl, HR1, HQ1, HB1⟩ := hrel
    by_cases hlt : j < 256
    · have hjd : d * j + d ≤ d * 256 := by
        have := Nat.mul_le_mul_left d (show j + 1 ≤ 256 by omega)
        rw [Nat.mul_succ] at this; exact this
      have ejd : (j : Int) * (d : Int) = ((d * j : Nat) : Int) := by rw [Int.natCast_mul, Int.mul_comm]
      obtain ⟨q, hq⟩ : ∃ q, d * j = q := ⟨_, rfl⟩
      rw [hq] at hjd ejd
      have hq4 : q ≤ 4000 := by omega
      have HQE := Lib.hid (fun _ : Unit => hq)
      have HRr := Lib.hid ((HR.out.below HB1.out).more HB1.out.size)
      clear hq
      go_wp2_with fail
      rw [show decide ((j : Int) < 256) = true from decide_eq_true (by omega)]
      go_loopw [8, 9] (fun v i W => ∃ k y : Nat, k ≤ d ∧ i = .int .i64 k ∧ v = .int .i64 y ∧ y < 4096 ∧ Hid (Unit → M / 2 ^ (d * j) % 2 ^ k = y) ∧ Hid (W.rowIs (w.heap.size + 1) 26 256 (ints (fillp (fun i => ((brv d (grp d M i) : Nat) : Int)) j))) ∧ Hid (W.heap[w.heap.size]? = some (.cells Z 26 (0, 0))) ∧ Hid (Below w.heap.size w W)) (fun _ i _ => d - (intOf i).toNat)
      case atStart => exact ⟨0, 0, by omega, rfl, rfl, by omega, Lib.hid fun _ => by rw [Nat.pow_zero, Nat.mod_one], HR1, HQ1, HB1⟩
      case round =>
        obtain ⟨k, y, hk, rfl, rfl, hy, HY, HR2, HQ2, HB2⟩ := hrel
        by_cases hkd : k < d
        · have hnx := grp_bit M d j k
          rw [HQE.out ()] at hnx
          have hb2 := bt_lt M (q + k)
          have hpl := grp_part_lt M d j (k + 1) (by omega)
          obtain ⟨b, hb⟩ : ∃ b, bt M (q + k) = b := ⟨_, rfl⟩
          rw [hb] at hnx hb2
          have HYq : M / 2 ^ q % 2 ^ k = y := by have := HY.out (); rwa [HQE.out ()] at this
          rw [HYq] at hnx
          rw [HQE.out ()] at hpl
          obtain ⟨s1, s2⟩ := bit_shl b k hb2 (by omega)
          obtain ⟨y', hy'⟩ : ∃ y', y + b * 2 ^ k = y' := ⟨_, rfl⟩
          have esum : (y : Int) + (b : Int) * 2 ^ k = (y' : Int) := by rw [← hy', pow_int, Int.natCast_add, Int.natCast_mul]
          rw [hy'] at hnx
          have hy'4 : y' < 4096 := by rw [← hnx]; exact hpl
          have HNX : Hid (Unit → M / 2 ^ (d * j) % 2 ^ (k + 1) = y') := Lib.hid fun _ => by rw [HQE.out (), hnx]
          have HC := Lib.hid (HBIT.out (q + k) wr (by rw [HN8.out ()]; omega) ((HR.out.below HB2.out).more HB2.out.size))
          rw [hb] at HC
          clear hnx hpl hb HYq hy'
          go_wp2_with fail
          refine HC.out.mono ?_
          rintro e' w' ⟨rfl, hw⟩
          subst hw
          go_wp2
          go_roundw
          case rel => exact ⟨k + 1, y', by omega, by go_num, rfl, hy'4, HNX, HR2, HQ2, HB2⟩
          case measure => simp [intOf]; omega
        · obtain rfl : k = d := by omega
          have f1 := HR2.out.frozen j
          have c1 : ∃ v, wr.cell? ⟨w.heap.size + 1, j, none⟩ = some v := ⟨_, HR2.out.cell hlt⟩
          obtain ⟨v1, c1⟩ := c1
          have HV : Hid (((brv k (grp k M j) : Nat) : Int) = (y : Int)) := Lib.hid (by
            show ((brv k ((M / 2 ^ (k * j) % 2 ^ k : Nat) : Int) : Nat) : Int) = _
            rw [HY.out ()]
            unfold brv
            rw [if_neg (by have := HD.out (); omega), rd2_nat, ← HY.out (), Nat.mod_mod])
          go_wp2
          go_roundw
          case rel =>
            refine ⟨j + 1, by omega, by go_num, Lib.hid ?_, Lib.hid ?_, Lib.hid ?_⟩
            · rw [← HV.out]
              exact fillp_succ HR2.out
            · exact (Below.heap_setCell wr ⟨w.heap.size + 1, j, none⟩ _ _ (by show w.heap.size ≠ w.heap.size + 1; omega)).trans HQ2.out
            · exact HB2.out.setCell (p := ⟨w.heap.size + 1, j, none⟩) (by show w.heap.size ≤ w.heap.size + 1; omega) _
          case measure => simp [intOf]; omega
    · obtain rfl : j = 256 := by omega
      obtain ⟨ds, hds, hP⟩ := of_row HR1.out
      have hP := fillp_all hP
      have H1 := Lib.hid hds; have H2 := Lib.hid hP; have HI := Lib.hid (poly_sized hP); have HM := Lib.hid (show Z.size = ds.size by rw [HZ.out.1, hP.1])
      clear hds hP
      go_wp2_with (first | (refine wpList_load_row rfl 26 (.tmp 6) rfl (w.heap.size + 1) rfl 26 ds (0, 0) _ H1.out Tryd.underlying26 rfl HI.out ?_) | (refine wpList_store_row rfl 26 (.tmp 4) (.tmp 52) rfl w.heap.size ds rfl rfl 26 Z HQ1.out HI.out HM.out H2.out.cells ?_))
      refine bodyPost_ret (v := .tuple #[.agg ds, .int .i64 0]) (results_row_tmp (p := 4) (u := 5) (ty := 26) (by kernel_rfl) _ _ w.heap.size 26 ds (0, 0) _ rfl (setRow_heap _ _ _ _ _ _ HQ1.out) Tryd.underlying26 rfl HI.out) rfl ⟨ds, rfl, H2.out, below_setRow HB1.out (Nat.le_refl _) _⟩
set_option maxHeartbeats 4000000 in
set_option maxRecDepth 100000 in
theorem rdecode_full (d : Nat) (A : Option Addr) (bs : List Nat) (n c : Nat) (w : World) (h1 : 1 ≤ d) (hfull : d = 12) (hR : Kec.Rd w w.heap.size A bs) (hn : bs.length = n) (hl : n = 32 * d) :
    Calls Tryd.prog 14 #[.int .i64 d, .slice A n c] w (PolyErr (fun i => ((brv d (grp d (num 8 (Kec.gt bs) n) i) : Nat) : Int)) 0 w) := by
  have hd12 : d ≤ 12 := by omega
  obtain ⟨Z, hz, hZ⟩ := zero_poly
  have HZ := Lib.hid hZ; have HR := Lib.hid hR; have HN := Lib.hid (fun _ : Unit => hn); have HL := Lib.hid (fun _ : Unit => hl)
  have hn100 : n ≤ 100000 := by omega
  have hne : ((n : Int) != 32 * (d : Int)) = false := by rw [bne_eq_false_iff_eq]; omega
  have hn8 : 8 * n = d * 256 := by omega
  have HN8 := Lib.hid (fun _ : Unit => hn8)
  obtain ⟨M, hM⟩ : ∃ M, num 8 (Kec.gt bs) n = M := ⟨_, rfl⟩
  have HBIT : Hid (∀ (t : Nat) (W : World), t < 8 * n → Kec.Rd W W.heap.size A bs → Calls Tryd.prog 25 #[.slice A n c, .int .i64 t] W fun e w' => e = .returned (.int .i64 (bt M t)) ∧ w' = W) := Lib.hid fun t W ht hRW => by
    have := rbit_any A bs n c t W hRW hn ht hn100
    rwa [hM] at this
  rw [hM]
  have e1 : (w.alloc (.cells Z 26)).heap.size = w.heap.size + 1 := by simp
  have g0 := (Below.heap_alloc (w.alloc (.cells Z 26)) (.cells Z 26) w.heap.size (by rw [e1]; omega)).trans (heap_alloc_last w (.cells Z 26))
  have g1 := heap_alloc_last (w.alloc (.cells Z 26)) (.cells Z 26)
  rw [e1] at g1
  have HG0 := Lib.hid g0; have HG1 := Lib.hid (row_of g1 (fillp_zero hZ fun i => ((brv d (grp d M i) : Nat) : Int)))
  have HB0 := Lib.hid (((Below.refl w.heap.size w).alloc (Nat.le_refl _) (.cells Z 26)).alloc (by simp) (.cells Z 26))
  have hdeq : ((d : Int) == 12) = true := by rw [beq_iff_eq]; omega
  have hd13 : ¬ (12 < (d : Int)) := by omega
  have HD := Lib.hid (fun _ : Unit => hfull)
  clear hZ hR hn hl hM e1 g0 g1 hn8 hfull
  go_enter Tryd.func14, Tryd.ntmps14
  go_wp2_with fail
  rw [show decide ((d : Int) < 1) = false from decide_eq_false (by omega)]
  go_loopw [7] (fun i W => ∃ j : Nat, j ≤ 256 ∧ i = .int .i64 j ∧ Hid (W.rowIs (w.heap.size + 1) 26 256 (ints (fillp (fun i => ((brv d (grp d M i) : Nat) : Int)) j))) ∧ Hid (W.heap[w.heap.size]? = some (.cells Z 26 (0, 0))) ∧ Hid (Below w.heap.size w W)) (fun i _ => 256 - (intOf i).toNat)
  case atStart => exact ⟨0, by omega, rfl, HG1, HG0, HB0⟩
  case round =>
    obtain ⟨j, hj, rfl, HR1, HQ1, HB1⟩ := hrel
    by_cases hlt : j < 256
    · have hjd : d * j + d ≤ d * 256 := by
        have := Nat.mul_le_mul_left d (show j + 1 ≤ 256 by omega)
        rw [Nat.mul_succ] at this; exact this
      have ejd : (j : Int) * (d : Int) = ((d * j : Nat) : Int) := by rw [Int.natCast_mul, Int.mul_comm]
      obtain ⟨q, hq⟩ : ∃ q, d * j = q := ⟨_, rfl⟩
      rw [hq] at hjd ejd
      have hq4 : q ≤ 4000 := by omega
      have HQE := Lib.hid (fun _ : Unit => hq)
      have HRr := Lib.hid ((HR.out.below HB1.out).more HB1.out.size)
      clear hq
      go_wp2_with fail
      rw [show decide ((j : Int) < 256) = true from decide_eq_true (by omega)]
      go_loopw [8, 9] (fun v i W => ∃ k y : Nat, k ≤ d ∧ i = .int .i64 k ∧ v = .int .i64 y ∧ y < 4096 ∧ Hid (Unit → M / 2 ^ (d * j) % 2 ^ k = y) ∧ Hid (W.rowIs (w.heap.size + 1) 26 256 (ints (fillp (fun i => ((brv d (grp d M i) : Nat) : Int)) j))) ∧ Hid (W.heap[w.heap.size]? = some (.cells Z 26 (0, 0))) ∧ Hid (Below w.heap.size w W)) (fun _ i _ => d - (intOf i).toNat)
      case atStart => exact ⟨0, 0, by omega, rfl, rfl, by omega, Lib.hid fun _ => by rw [Nat.pow_zero, Nat.mod_one], HR1, HQ1, HB1⟩
      case round =>
        obtain ⟨k, y, hk, rfl, rfl, hy, HY, HR2, HQ2, HB2⟩ := hrel
        by_cases hkd : k < d
        · have hnx := grp_bit M d j k
          rw [HQE.out ()] at hnx
          have hb2 := bt_lt M (q + k)
          have hpl := grp_part_lt M d j (k + 1) (by omega)
          obtain ⟨b, hb⟩ : ∃ b, bt M (q + k) = b := ⟨_, rfl⟩
          rw [hb] at hnx hb2
          have HYq : M / 2 ^ q % 2 ^ k = y := by have := HY.out (); rwa [HQE.out ()] at this
          rw [HYq] at hnx
          rw [HQE.out ()] at hpl
          obtain ⟨s1, s2⟩ := bit_shl b k hb2 (by omega)
          obtain ⟨y', hy'⟩ : ∃ y', y + b * 2 ^ k = y' := ⟨_, rfl⟩
          have esum : (y : Int) + (b : Int) * 2 ^ k = (y' : Int) := by rw [← hy', pow_int, Int.natCast_add, Int.natCast_mul]
          rw [hy'] at hnx
          have hy'4 : y' < 4096 := by rw [← hnx]; exact hpl
          have HNX : Hid (Unit → M / 2 ^ (d * j) % 2 ^ (k + 1) = y') := Lib.hid fun _ => by rw [HQE.out (), hnx]
          have HC := Lib.hid (HBIT.out (q + k) wr (by rw [HN8.out ()]; omega) ((HR.out.below HB2.out).more HB2.out.size))
          rw [hb] at HC
          clear hnx hpl hb HYq hy'
          go_wp2_with fail
          refine HC.out.mono ?_
          rintro e' w' ⟨rfl, hw⟩
          subst hw
          go_wp2
          go_roundw
          case rel => exact ⟨k + 1, y', by omega, by go_num, rfl, hy'4, HNX, HR2, HQ2, HB2⟩
          case measure => simp [intOf]; omega
        · obtain rfl : k = d := by omega
          have f1 := HR2.out.frozen j
          have c1 : ∃ v, wr.cell? ⟨w.heap.size + 1, j, none⟩ = some v := ⟨_, HR2.out.cell hlt⟩
          obtain ⟨v1, c1⟩ := c1
          have HV : Hid (((brv k (grp k M j) : Nat) : Int) = (y : Int) % 3329) := Lib.hid (by
            show ((brv k ((M / 2 ^ (k * j) % 2 ^ k : Nat) : Int) : Nat) : Int) = _
            rw [HY.out ()]
            unfold brv
            rw [if_pos (HD.out ())]; unfold rq; omega)
          go_wp2
          go_roundw
          case rel =>
            refine ⟨j + 1, by omega, by go_num, Lib.hid ?_, Lib.hid ?_, Lib.hid ?_⟩
            · rw [← HV.out]
              exact (row_set (row_set HR2.out j (y : Int)) j _).congr fun i hi => (rowfill_twice i j k M _ hi).symm
            · exact (Below.heap_setCell _ ⟨w.heap.size + 1, j, none⟩ _ _ (by show w.heap.size ≠ w.heap.size + 1; omega)).trans ((Below.heap_setCell wr ⟨w.heap.size + 1, j, none⟩ _ _ (by show w.heap.size ≠ w.heap.size + 1; omega)).trans HQ2.out)
            · exact (HB2.out.setCell (p := ⟨w.heap.size + 1, j, none⟩) (by show w.heap.size ≤ w.heap.size + 1; omega) _).setCell (p := ⟨w.heap.size + 1, j, none⟩) (by show w.heap.size ≤ w.heap.size + 1; omega) _
          case measure => simp [intOf]; omega
    · obtain rfl : j = 256 := by omega
      obtain ⟨ds, hds, hP⟩ := of_row HR1.out
      have hP := fillp_all hP
      have H1 := Lib.hid hds; have H2 := Lib.hid hP; have HI := Lib.hid (poly_sized hP); have HM := Lib.hid (show Z.size = ds.size by rw [HZ.out.1, hP.1])
      clear hds hP
      go_wp2_with (first | (refine wpList_load_row rfl 26 (.tmp 6) rfl (w.heap.size + 1) rfl 26 ds (0, 0) _ H1.out Tryd.underlying26 rfl HI.out ?_) | (refine wpList_store_row rfl 26 (.tmp 4) (.tmp 52) rfl w.heap.size ds rfl rfl 26 Z HQ1.out HI.out HM.out H2.out.cells ?_))
      refine bodyPost_ret (v := .tuple #[.agg ds, .int .i64 0]) (results_row_tmp (p := 4) (u := 5) (ty := 26) (by kernel_rfl) _ _ w.heap.size 26 ds (0, 0) _ rfl (setRow_heap _ _ _ _ _ _ HQ1.out) Tryd.underlying26 rfl HI.out) rfl ⟨ds, rfl, H2.out, below_setRow HB1.out (Nat.le_refl _) _⟩
set_option maxHeartbeats 2000000 in
set_option maxRecDepth 100000 in
theorem rdecode_lo (d : Int) (A : Option Addr) (n c : Nat) (w : World) (h : d < 1) :
    Calls Tryd.prog 14 #[.int .i64 d, .slice A n c] w (PolyErr (fun _ => 0) 1 w) := by
  obtain ⟨Z, hz, hZ⟩ := zero_poly
  have HZ := Lib.hid hZ
  have e1 : (w.alloc (.cells Z 26)).heap.size = w.heap.size + 1 := by simp
  have g0 := (Below.heap_alloc (w.alloc (.cells Z 26)) (.cells Z 26) w.heap.size (by rw [e1]; omega)).trans (heap_alloc_last w (.cells Z 26))
  have g1 := heap_alloc_last (w.alloc (.cells Z 26)) (.cells Z 26)
  rw [e1] at g1
  have HG0 := Lib.hid g0; have HG1 := Lib.hid g1; have HI := Lib.hid (poly_sized hZ)
  have HB0 := Lib.hid (((Below.refl w.heap.size w).alloc (Nat.le_refl _) (.cells Z 26)).alloc (by simp) (.cells Z 26))
  have h0 := h
  clear h0
  clear hZ e1 g0 g1
  go_enter Tryd.func14, Tryd.ntmps14
  go_wp2_with (first | (refine wpList_load_row rfl 26 (.tmp 6) rfl (w.heap.size + 1) rfl 26 Z (0, 0) _ HG1.out Tryd.underlying26 rfl HI.out ?_) | (refine wpList_store_row rfl 26 (.tmp 4) (.tmp 16) rfl w.heap.size Z rfl rfl 26 Z HG0.out HI.out rfl HZ.out.cells ?_))
  refine bodyPost_ret (v := .tuple #[.agg Z, .int .i64 1]) (results_row_tmp (p := 4) (u := 5) (ty := 26) (by kernel_rfl) _ _ w.heap.size 26 Z (0, 0) _ rfl (setRow_heap _ _ _ _ _ _ HG0.out) Tryd.underlying26 rfl HI.out) rfl ⟨Z, rfl, HZ.out, below_setRow HB0.out (Nat.le_refl _) _⟩
set_option maxHeartbeats 2000000 in
set_option maxRecDepth 100000 in
theorem rdecode_hi (d : Int) (A : Option Addr) (n c : Nat) (w : World) (h1 : ¬ d < 1) (h : 12 < d) :
    Calls Tryd.prog 14 #[.int .i64 d, .slice A n c] w (PolyErr (fun _ => 0) 1 w) := by
  obtain ⟨Z, hz, hZ⟩ := zero_poly
  have HZ := Lib.hid hZ
  have e1 : (w.alloc (.cells Z 26)).heap.size = w.heap.size + 1 := by simp
  have g0 := (Below.heap_alloc (w.alloc (.cells Z 26)) (.cells Z 26) w.heap.size (by rw [e1]; omega)).trans (heap_alloc_last w (.cells Z 26))
  have g1 := heap_alloc_last (w.alloc (.cells Z 26)) (.cells Z 26)
  rw [e1] at g1
  have HG0 := Lib.hid g0; have HG1 := Lib.hid g1; have HI := Lib.hid (poly_sized hZ)
  have HB0 := Lib.hid (((Below.refl w.heap.size w).alloc (Nat.le_refl _) (.cells Z 26)).alloc (by simp) (.cells Z 26))
  have h0 := h
  clear h0
  clear hZ e1 g0 g1
  go_enter Tryd.func14, Tryd.ntmps14
  go_wp2_with (first | (refine wpList_load_row rfl 26 (.tmp 6) rfl (w.heap.size + 1) rfl 26 Z (0, 0) _ HG1.out Tryd.underlying26 rfl HI.out ?_) | (refine wpList_store_row rfl 26 (.tmp 4) (.tmp 16) rfl w.heap.size Z rfl rfl 26 Z HG0.out HI.out rfl HZ.out.cells ?_))
  refine bodyPost_ret (v := .tuple #[.agg Z, .int .i64 1]) (results_row_tmp (p := 4) (u := 5) (ty := 26) (by kernel_rfl) _ _ w.heap.size 26 Z (0, 0) _ rfl (setRow_heap _ _ _ _ _ _ HG0.out) Tryd.underlying26 rfl HI.out) rfl ⟨Z, rfl, HZ.out, below_setRow HB0.out (Nat.le_refl _) _⟩
set_option maxHeartbeats 2000000 in
set_option maxRecDepth 100000 in
theorem rdecode_len (d : Int) (A : Option Addr) (n c : Nat) (w : World) (h1 : ¬ d < 1) (h2 : ¬ 12 < d) (h : (n : Int) ≠ 32 * d) (hm : n ≤ 9223372036854775807) :
    Calls Tryd.prog 14 #[.int .i64 d, .slice A n c] w (PolyErr (fun _ => 0) 52 w) := by
  obtain ⟨Z, hz, hZ⟩ := zero_poly
  have HZ := Lib.hid hZ
  have e1 : (w.alloc (.cells Z 26)).heap.size = w.heap.size + 1 := by simp
  have g0 := (Below.heap_alloc (w.alloc (.cells Z 26)) (.cells Z 26) w.heap.size (by rw [e1]; omega)).trans (heap_alloc_last w (.cells Z 26))
  have g1 := heap_alloc_last (w.alloc (.cells Z 26)) (.cells Z 26)
  rw [e1] at g1
  have HG0 := Lib.hid g0; have HG1 := Lib.hid g1; have HI := Lib.hid (poly_sized hZ)
  have HB0 := Lib.hid (((Below.refl w.heap.size w).alloc (Nat.le_refl _) (.cells Z 26)).alloc (by simp) (.cells Z 26))
  have hne : ((n : Int) != 32 * d) = true := by rw [bne_iff_ne]; exact h
  clear h
  clear hZ e1 g0 g1
  go_enter Tryd.func14, Tryd.ntmps14
  go_wp2_with (first | (refine wpList_load_row rfl 26 (.tmp 6) rfl (w.heap.size + 1) rfl 26 Z (0, 0) _ HG1.out Tryd.underlying26 rfl HI.out ?_) | (refine wpList_store_row rfl 26 (.tmp 4) (.tmp 22) rfl w.heap.size Z rfl rfl 26 Z HG0.out HI.out rfl HZ.out.cells ?_))
  refine bodyPost_ret (v := .tuple #[.agg Z, .int .i64 52]) (results_row_tmp (p := 4) (u := 5) (ty := 26) (by kernel_rfl) _ _ w.heap.size 26 Z (0, 0) _ rfl (setRow_heap _ _ _ _ _ _ HG0.out) Tryd.underlying26 rfl HI.out) rfl ⟨Z, rfl, HZ.out, below_setRow HB0.out (Nat.le_refl _) _⟩
theorem rdecode_any (d : Int) (A : Option Addr) (bs : List Nat) (n c : Nat) (w : World) (hR : Kec.Rd w w.heap.size A bs) (hn : bs.length = n) (hm : n ≤ 9223372036854775807) :
    Calls Tryd.prog 14 #[.int .i64 d, .slice A n c] w (PolyErr (decV d bs) (decE d bs) w) := by
  have zero : ∀ x, x ≠ 0 → decE d bs = x → decV d bs = fun _ => 0 := fun x hx e => by
    unfold decV; rw [e]; funext i; rw [if_neg hx]
  by_cases h1 : d < 1
  · have e : decE d bs = 1 := by unfold decE; rw [if_neg (by omega)]
    rw [zero 1 (by omega) e, e]; exact rdecode_lo d A n c w h1
  · by_cases h2 : 12 < d
    · have e : decE d bs = 1 := by unfold decE; rw [if_neg (by omega)]
      rw [zero 1 (by omega) e, e]; exact rdecode_hi d A n c w h1 h2
    · obtain ⟨k, rfl⟩ : ∃ k : Nat, d = k := ⟨d.toNat, by omega⟩
      by_cases hl : n = 32 * k
      · have e : decE (k : Int) bs = 0 := by unfold decE; rw [if_pos (by omega), hn, if_pos (by simpa using hl)]
        have hv : decV (k : Int) bs = fun i => ((brv k (grp k (num 8 (Kec.gt bs) n) i) : Nat) : Int) := by
          unfold decV; rw [e, hn]; funext i; rw [if_pos rfl]; rfl
        rw [e, hv]
        by_cases hf : k = 12
        · exact rdecode_full k A bs n c w (by omega) hf hR hn hl
        · exact rdecode_ok k A bs n c w (by omega) (by omega) hR hn hl
      · have e : decE (k : Int) bs = 52 := by unfold decE; rw [if_pos (by omega), hn, if_neg (by simpa using hl)]
        rw [zero 52 (by omega) e, e]; exact rdecode_len k A n c w h1 h2 (by omega) hm
end Go.Proofs.YtdkhiooiakdecaaDoorR.Kp
