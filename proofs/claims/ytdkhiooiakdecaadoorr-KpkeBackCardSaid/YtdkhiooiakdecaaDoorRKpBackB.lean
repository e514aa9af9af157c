/- Walks: KpkeBack. Written by tools/mk_kpback.py. -/
import Derived.Test.YtdkhiooiakdecaaDoorRKpRem
namespace Go.Proofs.YtdkhiooiakdecaaDoorR.Kp
set_option linter.all false
open Go.RowKit Iter Sm

set_option maxHeartbeats 8000000 in
set_option maxRecDepth 100000 in
theorem back_b (dn k : Nat) (A : Option Addr) (bs : List Nat) (n c : Nat) (cs : Array Value) (p : Nat → Int) (w : World) (hd : dn < 256) (hk : k = 1 + dn % 12) (hl : n = 32 * k) (hk1 : 1 ≤ k) (hfull : k = 12) (hR : Kec.Rd w w.heap.size A bs) (hn : bs.length = n) (hm : n ≤ 9223372036854775807) (hP : IsP cs p) (hF : Fits p) :
    Calls Tryd.prog 5 #[.int .u8 dn, .slice A n c, .agg cs] w fun e w' => e = .returned (.bool true) ∧ Below w.heap.size w w' := by
  have hk2 : k ≤ 12 := by omega
  have ek : 1 + (dn : Int) % 12 = (k : Int) := by omega
  clear hk
  have HL := Lib.hid hl
  obtain ⟨Z, hz, hZ⟩ := zero_poly
  have HZ := Lib.hid hZ; have HP := Lib.hid hP; have HF := Lib.hid hF; have HR := Lib.hid hR; have HN := Lib.hid (fun _ : Unit => hn)
  have HG := Lib.hid (heap_alloc_last w (.cells cs 26))
  have HB0 := Lib.hid ((Below.refl w.heap.size w).alloc (Nat.le_refl _) (.cells cs 26))
  have HS0 := Lib.hid (show (w.alloc (.cells cs 26)).heap.size = w.heap.size + 1 by simp)
  have HE : Hid (decE (k : Int) bs = 0) := Lib.hid (by unfold decE; rw [if_pos (by omega), HN.out ()]; rw [if_pos (by simpa using HL.out)])
  have hb1 : ((n : Int) == 32 * (k : Int)) = true := by rw [beq_iff_eq]; omega
  have HVF := Lib.hid (decV_fits (k : Int) bs (by omega))
  have HVB : Hid (Kec.Held 0 (.slice A n c) bs w) := Lib.hid ⟨A, n, c, rfl, HR.out, hn, fun _ _ => Nat.zero_le _⟩
  have HH := Lib.hid hn
  have hpk : (2 : Int) ^ k = 4096 := by rw [hfull]; rfl
  have HM : Hid (modOf k = 3329) := Lib.hid (by rw [hfull]; rfl)
  have hkeq : ((k : Int) == 12) = true := by rw [beq_iff_eq]; omega
  have hkeq2 : ¬ ((k : Int) < 12) := by omega
  have hkeq3 : ¬ (k < 12) := by omega
  clear hfull hl hZ hP hF hR hn
  go_enter Tryd.func5, Tryd.ntmps5
  go_wp2_with fail
  refine (head_any _).mono ?_
  rintro e' w1 ⟨rfl, hB⟩
  have HB1 := Lib.hid (HB0.out.trans (hB.mono HB0.out.size))
  have HG1 := Lib.hid ((hB.block w.heap.size (by have := HS0.out; omega)).trans HG.out)
  clear hB HB0 HG HS0
  go_wp2_with fail
  refine (decode_any k A bs n c _ ((HR.out.below HB1.out).more HB1.out.size) (HN.out ()) hm).mono ?_
  rintro e' w2 ⟨xs, rfl, hX, hB⟩
  have HX := Lib.hid hX
  have HB2 := Lib.hid (HB1.out.trans (hB.mono HB1.out.size))
  have HG2 := Lib.hid ((hB.block w.heap.size (Array.getElem?_eq_some_iff.1 HG1.out).1).trans HG1.out)
  clear hB hX HB1 HG1
  rw [HE.out]
  go_wp2_with (refine wpList_store_row rfl 26 (.tmp 9) (.tmp 25) rfl w2.heap.size xs rfl rfl 26 Z (heap_alloc_last w2 _) (poly_sized HX.out) (by rw [HZ.out.1, HX.out.1]) HX.out.cells ?_)
  rw [World.setRow_alloc_new]
  have hb3 := (Below.refl w2.heap.size w2).alloc (Nat.le_refl _) (.cells xs 26)
  have HXL := Lib.hid (heap_alloc_last w2 (.cells xs 26))
  have HG3 := Lib.hid ((hb3.block w.heap.size (Array.getElem?_eq_some_iff.1 HG2.out).1).trans HG2.out)
  have HB3 := Lib.hid (HB2.out.trans (hb3.mono HB2.out.size))
  have HV3 := Lib.hid (HVB.out.below HB3.out)
  obtain ⟨D, hD⟩ : ∃ D, w2.heap.size = D := ⟨_, rfl⟩
  obtain ⟨w3, hw3⟩ : ∃ w3, w2.alloc (.cells xs 26) = w3 := ⟨_, rfl⟩
  rw [hw3] at HXL HG3 HB3 HV3
  rw [hD] at HXL
  rw [hw3, hD]
  clear hb3 hw3 hD HG2 HB2
  go_wp2_with fail
  have HXd := Lib.hid (show w3.drew.heap[D]? = _ from HXL.out); have HGd := Lib.hid (show w3.drew.heap[w.heap.size]? = _ from HG3.out); have HVd := Lib.hid HV3.out.drew; have HBd := Lib.hid (Below.drew HB3.out)
  refine region_calm ?_
  refine wp_region_any (by kernel_rfl) ?_
  change wpAny _ _ _ _ _ _ _ (World.drew w3)
  refine wpAny_of_held (S := fun w' => w'.heap[w.heap.size]? = some (.cells cs 26 (0, 0))) _ _ _ _ ?_
  refine wpAnyH_take (i := 0) (v := ?v0g1) rfl (by kernel_rfl) (by kernel_rfl) (by kernel_rfl) (fun _ _ _ h => h) (Or.inl ⟨by rfl, ?y0g1⟩) HGd.out ?r0g1
  case y0g1 => (intro w' hSw; clear hSw; go_simp; try with_reducible rfl)
  simp only [List.getElem_toArray, List.getElem_cons_succ, List.getElem_cons_zero, Act.put, List.setIfInBounds_toArray, List.set_cons_zero, List.set_cons_succ]
  refine wpAnyH_take (i := 1) (v := ?v1g1) rfl (by kernel_rfl) (by kernel_rfl) (by kernel_rfl) (fun _ _ _ h => h) (Or.inl ⟨by rfl, ?y1g1⟩) HGd.out ?r1g1
  case y1g1 => (intro w' hSw; clear hSw; go_simp; try with_reducible rfl)
  simp only [List.getElem_toArray, List.getElem_cons_succ, List.getElem_cons_zero, Act.put, List.setIfInBounds_toArray, List.set_cons_zero, List.set_cons_succ]
  refine wpAnyH_take (i := 2) (v := ?v2g1) rfl (by kernel_rfl) (by kernel_rfl) (by kernel_rfl) (fun _ _ _ h => h) (Or.inl ⟨by rfl, ?y2g1⟩) HGd.out ?r2g1
  case y2g1 => (intro w' hSw; clear hSw; go_simp; try with_reducible rfl)
  simp only [List.getElem_toArray, List.getElem_cons_succ, List.getElem_cons_zero, Act.put, List.setIfInBounds_toArray, List.set_cons_zero, List.set_cons_succ]
  refine wpAnyH_take (i := 3) (v := ?v3g1) rfl (by kernel_rfl) (by kernel_rfl) (by kernel_rfl) (fun _ _ _ h => h) (Or.inl ⟨by rfl, ?y3g1⟩) HGd.out ?r3g1
  case y3g1 => (intro w' hSw; clear hSw; go_simp; try with_reducible rfl)
  simp only [List.getElem_toArray, List.getElem_cons_succ, List.getElem_cons_zero, Act.put, List.setIfInBounds_toArray, List.set_cons_zero, List.set_cons_succ]
  refine wpAnyH_take (i := 4) (v := ?v4g1) rfl (by kernel_rfl) (by kernel_rfl) (by kernel_rfl) (fun _ _ _ h => h) (Or.inl ⟨by rfl, ?y4g1⟩) HGd.out ?r4g1
  case y4g1 => (intro w' hSw; clear hSw; go_simp; try with_reducible rfl)
  simp only [List.getElem_toArray, List.getElem_cons_succ, List.getElem_cons_zero, Act.put, List.setIfInBounds_toArray, List.set_cons_zero, List.set_cons_succ]
  refine wpAnyH_take (i := 5) (v := ?v5g1) rfl (by kernel_rfl) (by kernel_rfl) (by kernel_rfl) (fun _ _ _ h => h) (Or.inl ⟨by rfl, ?y5g1⟩) HGd.out ?r5g1
  case y5g1 => (intro w' hSw; clear hSw; go_simp; try with_reducible rfl)
  simp only [List.getElem_toArray, List.getElem_cons_succ, List.getElem_cons_zero, Act.put, List.setIfInBounds_toArray, List.set_cons_zero, List.set_cons_succ]
  refine wpAnyH_take (i := 6) (v := ?v6g1) rfl (by kernel_rfl) (by kernel_rfl) (by kernel_rfl) (fun _ _ _ h => h) (Or.inl ⟨by rfl, ?y6g1⟩) HGd.out ?r6g1
  case y6g1 => (intro w' hSw; clear hSw; go_simp; try with_reducible rfl)
  simp only [List.getElem_toArray, List.getElem_cons_succ, List.getElem_cons_zero, Act.put, List.setIfInBounds_toArray, List.set_cons_zero, List.set_cons_succ]
  rw [show decide ((k : Int) < 12) = false from decide_eq_false (by omega)]
  refine wpAnyH_take (i := 7) (v := undef) rfl (by kernel_rfl) (by kernel_rfl) (by kernel_rfl) (fun _ _ _ h => h) (Or.inr ⟨by rfl, rfl⟩) HGd.out ?r7g1
  simp only [List.getElem_toArray, List.getElem_cons_succ, List.getElem_cons_zero, Act.put, List.setIfInBounds_toArray, List.set_cons_zero, List.set_cons_succ]
  refine wpAnyH_take (i := 8) (v := undef) rfl (by kernel_rfl) (by kernel_rfl) (by kernel_rfl) (fun _ _ _ h => h) (Or.inr ⟨by rfl, rfl⟩) HGd.out ?r8g1
  simp only [List.getElem_toArray, List.getElem_cons_succ, List.getElem_cons_zero, Act.put, List.setIfInBounds_toArray, List.set_cons_zero, List.set_cons_succ]
  refine wpAnyH_take (i := 9) (v := undef) rfl (by kernel_rfl) (by kernel_rfl) (by kernel_rfl) (fun _ _ _ h => h) (Or.inr ⟨by rfl, rfl⟩) HGd.out ?r9g1
  simp only [List.getElem_toArray, List.getElem_cons_succ, List.getElem_cons_zero, Act.put, List.setIfInBounds_toArray, List.set_cons_zero, List.set_cons_succ]
  refine wpAnyH_take (i := 10) (v := undef) rfl (by kernel_rfl) (by kernel_rfl) (by kernel_rfl) (fun _ _ _ h => h) (Or.inr ⟨by rfl, rfl⟩) HGd.out ?r10g1
  simp only [List.getElem_toArray, List.getElem_cons_succ, List.getElem_cons_zero, Act.put, List.setIfInBounds_toArray, List.set_cons_zero, List.set_cons_succ]
  refine wpAnyH_take (i := 11) (v := undef) rfl (by kernel_rfl) (by kernel_rfl) (by kernel_rfl) (fun _ _ _ h => h) (Or.inr ⟨by rfl, rfl⟩) HGd.out ?r11g1
  simp only [List.getElem_toArray, List.getElem_cons_succ, List.getElem_cons_zero, Act.put, List.setIfInBounds_toArray, List.set_cons_zero, List.set_cons_succ]
  refine wpAnyH_take (i := 12) (v := undef) rfl (by kernel_rfl) (by kernel_rfl) (by kernel_rfl) (fun _ _ _ h => h) (Or.inr ⟨by rfl, rfl⟩) HGd.out ?r12g1
  simp only [List.getElem_toArray, List.getElem_cons_succ, List.getElem_cons_zero, Act.put, List.setIfInBounds_toArray, List.set_cons_zero, List.set_cons_succ]
  refine wpAnyH_take (i := 13) (v := undef) rfl (by kernel_rfl) (by kernel_rfl) (by kernel_rfl) (fun _ _ _ h => h) (Or.inr ⟨by rfl, rfl⟩) HGd.out ?r13g1
  simp only [List.getElem_toArray, List.getElem_cons_succ, List.getElem_cons_zero, Act.put, List.setIfInBounds_toArray, List.set_cons_zero, List.set_cons_succ]
  refine wpAnyH_take (i := 14) (v := ?v14g1) rfl (by kernel_rfl) (by kernel_rfl) (by kernel_rfl) (fun _ _ _ h => h) (Or.inl ⟨by rfl, ?y14g1⟩) HGd.out ?r14g1
  case y14g1 => (intro w' hSw; clear hSw; go_simp; try with_reducible rfl)
  simp only [List.getElem_toArray, List.getElem_cons_succ, List.getElem_cons_zero, Act.put, List.setIfInBounds_toArray, List.set_cons_zero, List.set_cons_succ]
  refine wpAnyH_done (by kernel_rfl) ?_ _
  have HGq := HGd; have HBq := HBd
  go_wp2_with fail
  go_loopw [12] (fun i W => ∃ j : Nat, j ≤ 256 ∧ i = .int .i64 j ∧ Hid (W.rowIs w.heap.size 26 256 (ints (remTo 3329 p j))) ∧ Hid (Below w.heap.size w W)) (fun i _ => 256 - (intOf i).toNat)
  case atStart => exact ⟨0, by omega, rfl, Lib.hid (by rw [remTo_zero]; exact row_of HGq.out HP.out), HBq⟩
  case round =>
    obtain ⟨j, hj, rfl, HRj, HBj⟩ := hrel
    by_cases hlt : j < 256
    · have cj : wr.cell? ⟨w.heap.size, j, none⟩ = some (.int .i64 (p j)) := by
        have := HRj.out.cell hlt
        unfold ints at this
        rwa [remTo_at] at this
      have fj := HRj.out.frozen j
      obtain ⟨t1, t2, t3, t4⟩ := tmod_neg_fix (p j) (M := 3329) (by omega)
      have hfj := HF.out j hlt
      rw [show ((3329 : Nat) : Int) = 3329 from rfl] at t1 t2 t3 t4
      have T1 := Lib.hid t1; have T2 := Lib.hid t2
      clear t1 t2
      have h0 : ¬ ((3329 : Int) = 0) := by omega
      by_cases hneg : (p j).tmod (3329 : Int) < 0
      · go_wp2
        go_roundw
        case rel =>
          exact ⟨j + 1, by omega, by go_num, Lib.hid (row_remTo HRj.out (row_set (row_set HRj.out j _) j _) (fun i _ hne => by unfold ints; simp only [if_neg hne]) (by unfold ints; simp only [if_true]; show Value.int .i64 (_ + _) = Value.int .i64 _; rw [T1.out hneg]; rfl)), Lib.hid ((HBj.out.setCell (p := ⟨w.heap.size, j, none⟩) (Nat.le_refl _) _).setCell (p := ⟨w.heap.size, j, none⟩) (Nat.le_refl _) _)⟩
        case measure => simp [intOf]; omega
      · go_wp2
        go_roundw
        case rel =>
          exact ⟨j + 1, by omega, by go_num, Lib.hid (row_remTo HRj.out (row_set HRj.out j _) (fun i _ hne => by unfold ints; simp only [if_neg hne]) (by unfold ints; simp only [if_true]; show Value.int .i64 _ = Value.int .i64 _; rw [T2.out hneg]; rfl)), Lib.hid (HBj.out.setCell (p := ⟨w.heap.size, j, none⟩) (Nat.le_refl _) _)⟩
        case measure => simp [intOf]; omega
    · obtain rfl : j = 256 := by omega
      obtain ⟨qs, hqs, hQ⟩ := of_row HRj.out
      have hQ := remTo_all hQ
      have HQS := Lib.hid hqs; have HQ := Lib.hid hQ; have HI := Lib.hid (poly_sized hQ)
      clear hqs hQ
      go_wp2_with (refine wpList_load_row rfl 26 (.tmp 5) rfl w.heap.size rfl 26 qs (0, 0) _ HQS.out Tryd.underlying26 rfl HI.out ?_)
      refine (encode_ok k qs (rem2 3329 p) _ HQ.out (rem2_fits p (by omega) (by omega)) hk1 hk2).mono ?_
      rintro e' w5 ⟨g, rfl, ho, hB⟩
      have HB5 := Lib.hid (HBj.out.trans (hB.mono HBj.out.size))
      have HG5 := Lib.hid ((hB.block w.heap.size (Array.getElem?_eq_some_iff.1 HQS.out).1).trans HQS.out)
      have HR5 := Lib.hid (Kec.rd_of_own ho (encB_lt k (rem2 3329 p)) (Nat.le_refl _))
      clear ho hB
      go_wp2_with fail
      refine (decode_any k (some ⟨g, 0, none⟩) (encB k (rem2 3329 p)) (32 * k) (32 * k) _ HR5.out (encB_len k _) (by omega)).mono ?_
      rintro e' w6 ⟨ys, rfl, hY, hB⟩
      rw [decE_enc k _ hk1 hk2]
      obtain rfl : ys = qs := hY.one HQ.out fun i hi => by
        rw [decV_enc k _ hk1 hk2 i hi]
        have := brv_rem2 k p hk2 i
        rwa [HM.out] at this
      have HB6 := Lib.hid (HB5.out.trans (hB.mono HB5.out.size))
      have HG6 := Lib.hid ((hB.block w.heap.size (Array.getElem?_eq_some_iff.1 HG5.out).1).trans HG5.out)
      clear hB hY HB5 HG5 HR5
      go_wp2_with (refine wpList_store_row rfl 26 (.tmp 14) (.tmp 83) rfl w6.heap.size ys rfl rfl 26 Z (heap_alloc_last w6 _) HI.out (by rw [HZ.out.1, HQ.out.1]) HQ.out.cells ?_)
      rw [World.setRow_alloc_new]
      have hb7 := (Below.refl w6.heap.size w6).alloc (Nat.le_refl _) (.cells ys 26)
      have HN7 := Lib.hid (heap_alloc_last w6 (.cells ys 26))
      have HG7 := Lib.hid ((hb7.block w.heap.size (Array.getElem?_eq_some_iff.1 HG6.out).1).trans HG6.out)
      have HB7 := Lib.hid (HB6.out.trans (hb7.mono HB6.out.size))
      obtain ⟨w7, hw7⟩ : ∃ w7, w6.alloc (.cells ys 26) = w7 := ⟨_, rfl⟩
      rw [hw7] at HN7 HG7 HB7
      rw [hw7]
      clear hb7 hw7 HG6 HB6
      have hre := fun w => run_eq HQ.out w
      have hgd := fun x y w => guard_poly .eql x y ys ys w
      go_wp2_with fail
      refine wp_load_row 26 (.tmp 14) rfl w6.heap.size rfl 26 ys (0, 0) _ HN7.out Tryd.underlying26 rfl HI.out ?_
      rename_i K hK
      refine hK _ _ ?_
      clear hK K
      go_wp2_with fail
      refine wp_load_row 26 (.tmp 5) rfl w.heap.size rfl 26 ys (0, 0) _ HG7.out Tryd.underlying26 rfl HI.out ?_
      rename_i K hK
      refine hK _ _ ?_
      clear hK K
      go_wp2_with fail
      go_ret
      exact ⟨rfl, HB7.out⟩

end Go.Proofs.YtdkhiooiakdecaaDoorR.Kp
