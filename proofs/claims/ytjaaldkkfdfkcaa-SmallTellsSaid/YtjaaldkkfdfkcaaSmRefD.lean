/- Walks of the document's own: Times. Written by tools/mk_smreft.py. -/
import Derived.Test.YtjaaldkkfdfkcaaSmRefC
namespace Go.Proofs.Ytjaaldkkfdfkcaa.Sm
open Go.RowKit
set_option linter.all false

theorem gam_pw : ∀ k, k < 128 → pw (2 * tn k + 1) = gam k := by decide +kernel

set_option maxHeartbeats 4000000 in
set_option maxRecDepth 100000 in
theorem rtim_any (cs es : Array Value) (p q : Nat → Int) (w : World) (hP : IsP cs p) (hQ : IsP es q) (hFp : Fits p) (hFq : Fits q) :
    Calls Try.prog 21 #[.agg cs, .agg es] w fun e w' => ∃ ds, e = .returned (.agg ds) ∧ IsP ds (up (tim (redp p) (redp q))) ∧ Below w.heap.size w w' := by
  have HP := Lib.hid hP; have HQ := Lib.hid hQ; have HFp := Lib.hid hFp; have HFq := Lib.hid hFq; clear hP hQ hFp hFq
  obtain ⟨Z, hz, hZ⟩ := zero_poly
  have HZ := Lib.hid hZ; clear hZ
  have e1 : (w.alloc (.cells cs 23)).heap.size = w.heap.size + 1 := by simp
  have e2 : ((w.alloc (.cells cs 23)).alloc (.cells es 23)).heap.size = w.heap.size + 2 := by simp
  have HA0 := Lib.hid ((Below.heap_alloc ((w.alloc (.cells cs 23)).alloc (.cells es 23)) (.cells Z 23) w.heap.size (by rw [e2]; omega)).trans ((Below.heap_alloc (w.alloc (.cells cs 23)) (.cells es 23) w.heap.size (by rw [e1]; omega)).trans (heap_alloc_last w (.cells cs 23))))
  have r2 := heap_alloc_last (w.alloc (.cells cs 23)) (.cells es 23)
  rw [e1] at r2
  have HB0 := Lib.hid ((Below.heap_alloc ((w.alloc (.cells cs 23)).alloc (.cells es 23)) (.cells Z 23) (w.heap.size + 1) (by rw [e2]; omega)).trans r2)
  have r3 := heap_alloc_last ((w.alloc (.cells cs 23)).alloc (.cells es 23)) (.cells Z 23)
  rw [e2] at r3
  have HZ0 := Lib.hid r3
  have HW0 := Lib.hid ((((Below.refl _ _).alloc (Nat.le_refl w.heap.size) (.cells cs 23)).alloc (by simp) (.cells es 23)).alloc (by simp <;> omega) (.cells Z 23))
  clear r2 r3 e1 e2
  go_enter Try.func21, Try.ntmps21
  go_wp2_with (refine wpList_load_row rfl 23 (.tmp 2) rfl w.heap.size rfl 23 cs (0, 0) _ HA0.out Try.underlying23 rfl (poly_sized HP.out) ?_)
  refine (rmod_any cs p _ HP.out HFp.out).mono ?_
  rintro e' w1 ⟨ds, rfl, hD, hB⟩
  have hs1 : w.heap.size + 3 ≤ w1.heap.size := by have := hB.size; simpa using this
  have HD := Lib.hid hD
  have HA1 := Lib.hid ((hB.block w.heap.size (by simp <;> omega)).trans HA0.out)
  have HB1 := Lib.hid ((setRow_other w1 w.heap.size (w.heap.size + 1) ds (by omega)).trans ((hB.block (w.heap.size + 1) (by simp <;> omega)).trans HB0.out))
  have HZ1 := Lib.hid ((setRow_other w1 w.heap.size (w.heap.size + 2) ds (by omega)).trans ((hB.block (w.heap.size + 2) (by simp)).trans HZ0.out))
  have HW1 := Lib.hid (below_setRow (HW0.out.trans (hB.mono HW0.out.size)) (Nat.le_refl w.heap.size) ds)
  have HA2 := Lib.hid (setRow_heap w1 w.heap.size cs ds 23 (0, 0) HA1.out)
  have HM1 := Lib.hid (show cs.size = ds.size by rw [HP.out.1, hD.1])
  clear hD hB HA0 HB0 HZ0 HW0
  go_wp2_with (first | (refine wpList_store_row rfl 23 (.tmp 2) (.tmp 9) rfl w.heap.size ds rfl rfl 23 cs HA1.out (poly_sized HD.out) HM1.out HD.out.cells ?_) | (refine wpList_load_row rfl 23 (.tmp 3) rfl (w.heap.size + 1) rfl 23 es (0, 0) _ HB1.out Try.underlying23 rfl (poly_sized HQ.out) ?_))
  refine (rmod_any es q _ HQ.out HFq.out).mono ?_
  rintro e' w2 ⟨fs, rfl, hD2, hB⟩
  have hs2 : w.heap.size + 3 ≤ w2.heap.size := by have := hB.size; simp at this; omega
  have HD2 := Lib.hid hD2
  have HB2 := Lib.hid ((hB.block (w.heap.size + 1) (by simp; omega)).trans HB1.out)
  have HRA := Lib.hid (row_of ((setRow_other w2 (w.heap.size + 1) w.heap.size fs (by omega)).trans ((hB.block w.heap.size (by simp; omega)).trans HA2.out)) HD.out)
  have HZ2 := Lib.hid ((setRow_other w2 (w.heap.size + 1) (w.heap.size + 2) fs (by omega)).trans ((hB.block (w.heap.size + 2) (by simp; omega)).trans HZ1.out))
  have HRB := Lib.hid (row_of (setRow_heap w2 (w.heap.size + 1) es fs 23 (0, 0) HB2.out) HD2.out)
  have HW2 := Lib.hid (below_setRow (HW1.out.trans (hB.mono HW1.out.size)) (show w.heap.size ≤ w.heap.size + 1 by omega) fs)
  have HM2 := Lib.hid (show es.size = fs.size by rw [HQ.out.1, hD2.1])
  have hs3 : w.heap.size + 3 ≤ (w2.setRow (w.heap.size + 1) fs).heap.size := by simpa using hs2
  have HRC := Lib.hid (row_of (heap_alloc_last (w2.setRow (w.heap.size + 1) fs) (.cells Z 23)) HZ.out)
  have HRA := Lib.hid (HRA.out.alloc (.cells Z 23)); have HRB := Lib.hid (HRB.out.alloc (.cells Z 23))
  have HZ3 := Lib.hid ((Below.heap_alloc (w2.setRow (w.heap.size + 1) fs) (.cells Z 23) (w.heap.size + 2) (by omega)).trans HZ2.out)
  have HW3 := Lib.hid (HW2.out.alloc (by omega) (.cells Z 23))
  clear hD2 hB HA1 HA2 HB1 HZ1 HW1 HM1 HZ2 HW2
  go_wp2_with (refine wpList_store_row rfl 23 (.tmp 3) (.tmp 11) rfl (w.heap.size + 1) fs rfl rfl 23 es HB2.out (poly_sized HD2.out) HM2.out HD2.out.cells ?_)
  obtain ⟨bA, hbA⟩ : ∃ b, w.heap.size = b := ⟨_, rfl⟩
  obtain ⟨bB, hbB⟩ : ∃ b, w.heap.size + 1 = b := ⟨_, rfl⟩
  obtain ⟨bZ, hbZ⟩ : ∃ b, w.heap.size + 2 = b := ⟨_, rfl⟩
  obtain ⟨bC, hbC⟩ : ∃ b, (w2.setRow (w.heap.size + 1) fs).heap.size = b := ⟨_, rfl⟩
  have hbC' : w2.heap.size = bC := by rw [← hbC]; simp
  rw [hbC] at HRC hs3
  rw [hbB] at HRA HRB HZ3 HW3 HRC
  rw [hbZ] at HZ3
  have HLW : Hid (w.heap.size ≤ bC) := Lib.hid (by omega)
  have HLZ : Hid (w.heap.size ≤ bZ) := Lib.hid (by omega)
  have n1 : bA < bC := by omega
  have n2 : bB < bC := by omega
  have n3 : bZ < bC := by omega
  rw [hbA] at HRA
  obtain ⟨A, hA⟩ : ∃ A, redp p = A := ⟨_, rfl⟩
  obtain ⟨B, hB⟩ : ∃ B, redp q = B := ⟨_, rfl⟩
  rw [hA] at HRA; rw [hB] at HRB
  rw [show (w2.setRow (w.heap.size + 1) fs) = (w2.setRow bB fs) by rw [hbB]]
  rw [hbC', hbZ, hbB, hbA]
  change Code.wp _ _ _ _ ((w2.setRow bB fs).alloc (.cells Z 23))
  generalize (w2.setRow bB fs).alloc (.cells Z 23) = w3 at *
  have HAE := Lib.hid hA; have HBE := Lib.hid hB; have HLC := HLW.out
  have HRC := Lib.hid (row_is HRC.out (q := partx (tim A B) (2 * 0)) (fun i _ => by unfold partx; rw [if_neg (by omega)]))
  clear hA hB hs3 hbA hbB hbZ hbC hbC' HB2 HD HD2 HM2 hs1 hs2 hz
  go_loopw [6] (fun i W => ∃ k : Nat, k ≤ 128 ∧ i = .int .i64 k ∧ Hid (W.rowIs bC 23 256 (ints (partx (tim A B) (2 * k)))) ∧ Hid (W.rowIs bA 23 256 (ints (up A))) ∧ Hid (W.rowIs bB 23 256 (ints (up B))) ∧ Hid (W.heap[bZ]? = some (.cells Z 23 (0, 0))) ∧ Hid (Below w.heap.size w W)) (fun i _ => 128 - (intOf i).toNat)
  case atStart => exact ⟨0, by omega, rfl, HRC, HRA, HRB, HZ3, HW3⟩
  case round =>
    clear HRC HRA HRB HZ3 HW3
    obtain ⟨k, hk, rfl, HRC, HRA, HRB, HZ3, HB3⟩ := hrel
    by_cases hlt : k < 128
    · have hdk : decide ((k : Int) < 128) = true := decide_eq_true (by omega)
      have ht := tn_lt k
      go_wp2_with fail
      refine (rturned_any k _ hlt).mono ?_
      rintro e' w' ⟨rfl, rfl⟩
      have hcast : 2 * ((tn k : Nat) : Int) + 1 = ((2 * tn k + 1 : Nat) : Int) := by omega
      have HCA := Lib.hid hcast; clear hcast
      go_wp2_with fail
      rw [HCA.out]
      refine (rpower_any (2 * tn k + 1) _ (by omega)).mono ?_
      rintro e' w' ⟨rfl, rfl⟩
      rw [gam_pw k hlt]
      have c0 := HRA.out.cell (i := 2 * k) (by omega)
      have c1 := HRA.out.cell (i := 2 * k + 1) (by omega)
      have d0 := HRB.out.cell (i := 2 * k) (by omega)
      have d1 := HRB.out.cell (i := 2 * k + 1) (by omega)
      unfold ints at c0 c1 d0 d1
      rw [up_at] at c0 c1 d0 d1
      have fr := HRC.out.frozen (2 * k)
      have fc := HRC.out.cell (i := 2 * k) (by omega)
      unfold ints at fc
      have HX : Hid (tim A B (2 * k) = A (2 * k) * B (2 * k) + gam k * (A (2 * k + 1) * B (2 * k + 1))) := Lib.hid (by rw [tim_even, Nat.mod_eq_of_lt hlt])
      have HY : Hid (tim A B (2 * k + 1) = A (2 * k) * B (2 * k + 1) + A (2 * k + 1) * B (2 * k)) := Lib.hid (tim_odd _ _ _)
      obtain ⟨x0, hx0⟩ : ∃ x, A (2 * k) = x := ⟨_, rfl⟩
      obtain ⟨x1, hx1⟩ : ∃ x, A (2 * k + 1) = x := ⟨_, rfl⟩
      obtain ⟨y0, hy0⟩ : ∃ x, B (2 * k) = x := ⟨_, rfl⟩
      obtain ⟨y1, hy1⟩ : ∃ x, B (2 * k + 1) = x := ⟨_, rfl⟩
      obtain ⟨g, hg⟩ : ∃ x, gam k = x := ⟨_, rfl⟩
      rw [hx0] at c0; rw [hx1] at c1; rw [hy0] at d0; rw [hy1] at d1
      rw [hx0, hx1, hy0, hy1, hg] at HX; rw [hx0, hx1, hy0, hy1] at HY
      rw [hg]
      have HX0 := Lib.hid hx0; have HX1 := Lib.hid hx1; have HY0 := Lib.hid hy0; have HY1 := Lib.hid hy1
      clear hx0 hx1 hy0 hy1 hg
      have b1 := mul_bd x0 y0; have b2 := mul_bd x1 y1; have b3 := mul_bd g (x1 * y1); have b4 := mul_bd x0 y1; have b5 := mul_bd x1 y0
      have i0 : (0 : Int) ≤ 2 * (k : Int) := by omega
      have i1 : 2 * (k : Int) < 256 := by omega
      have i2 : (0 : Int) ≤ 2 * (k : Int) + 1 := by omega
      have i3 : 2 * (k : Int) + 1 < 256 := by omega
      have i4 : (2 * (k : Int)).toNat = 2 * k := by omega
      have i5 : (2 * (k : Int) + 1).toNat = 2 * k + 1 := by omega
      have p1 : IntKind.i64.wrap (2 * (k : Int)) = 2 * (k : Int) := IntWalk.i64_in _ (by omega)
      have p2 : IntKind.i64.wrap (2 * (k : Int) + 1) = 2 * (k : Int) + 1 := IntWalk.i64_in _ (by omega)
      have q1 : IntKind.i64.wrap (nv x0 * nv y0) = nv x0 * nv y0 := IntWalk.i64_in _ (by omega)
      have q2 : IntKind.i64.wrap (nv x1 * nv y1) = nv x1 * nv y1 := IntWalk.i64_in _ (by omega)
      have q8 := mul_nv_t x1 y1
      have q9 : IntKind.i64.wrap (nv (x1 * y1)) = nv (x1 * y1) := IntWalk.i64_in _ (by have := nv_lo (x1 * y1); have := nv_hi (x1 * y1); omega)
      have q3 : IntKind.i64.wrap (nv g * nv (x1 * y1)) = nv g * nv (x1 * y1) := IntWalk.i64_in _ (by omega)
      have q4 : IntKind.i64.wrap (nv x0 * nv y0 + nv g * nv (x1 * y1)) = nv x0 * nv y0 + nv g * nv (x1 * y1) := IntWalk.i64_in _ (by omega)
      have q5 : IntKind.i64.wrap (nv x0 * nv y1) = nv x0 * nv y1 := IntWalk.i64_in _ (by omega)
      have q6 : IntKind.i64.wrap (nv x1 * nv y0) = nv x1 * nv y0 := IntWalk.i64_in _ (by omega)
      have q7 : IntKind.i64.wrap (nv x0 * nv y1 + nv x1 * nv y0) = nv x0 * nv y1 + nv x1 * nv y0 := IntWalk.i64_in _ (by omega)
      go_wp2
      refine wp_region_still_tail 28 (by kernel_rfl) (by kernel_rfl) ?_
      simp only [List.take_succ_cons, List.take_zero, List.drop_succ_cons, List.drop_zero]
      repeat still_step
      still_call (rmod_same _ (x0 * y0 + g * (x1 * y1)) _ (red_even _ _ _ _ _) (by omega) (by omega))
      repeat still_step
      refine wpStill_nil ?_
      change wpList _ _ _ _ _ wr.drew
      go_wp2
      have HRC2 := Lib.hid (partx_put HX.out HRC.out)
      have HRA2 := Lib.hid (HRA.out.setOther (a := ⟨bC, 2 * k, none⟩) (show bA ≠ bC by omega) (.int .i64 (nv (x0 * y0 + g * (x1 * y1)))))
      have HRB2 := Lib.hid (HRB.out.setOther (a := ⟨bC, 2 * k, none⟩) (show bB ≠ bC by omega) (.int .i64 (nv (x0 * y0 + g * (x1 * y1)))))
      have HZ4 := Lib.hid ((Below.heap_setCell wr ⟨bC, 2 * k, none⟩ (.int .i64 (nv (x0 * y0 + g * (x1 * y1)))) bZ (show bZ ≠ bC by omega)).trans HZ3.out)
      have HB4 := Lib.hid (HB3.out.setCell (p := ⟨bC, 2 * k, none⟩) HLC (.int .i64 (nv (x0 * y0 + g * (x1 * y1)))))
      clear c0 c1 d0 d1 fr fc HRC HRA HRB HZ3 HB3
      change Code.wp _ _ _ _ (wr.setCell ⟨bC, 2 * k, none⟩ (.int .i64 (nv (x0 * y0 + g * (x1 * y1))))).drew
      generalize wr.setCell ⟨bC, 2 * k, none⟩ (.int .i64 (nv (x0 * y0 + g * (x1 * y1)))) = wN at *
      have c0 : wN.drew.cell? ⟨bA, 2 * k, none⟩ = some (.int .i64 (nv x0)) := by have := HRA2.out.cell (i := 2 * k) (by omega); unfold ints at this; rw [up_at, HX0.out] at this; exact this
      have c1 : wN.drew.cell? ⟨bA, 2 * k + 1, none⟩ = some (.int .i64 (nv x1)) := by have := HRA2.out.cell (i := 2 * k + 1) (by omega); unfold ints at this; rw [up_at, HX1.out] at this; exact this
      have d0 : wN.drew.cell? ⟨bB, 2 * k, none⟩ = some (.int .i64 (nv y0)) := by have := HRB2.out.cell (i := 2 * k) (by omega); unfold ints at this; rw [up_at, HY0.out] at this; exact this
      have d1 : wN.drew.cell? ⟨bB, 2 * k + 1, none⟩ = some (.int .i64 (nv y1)) := by have := HRB2.out.cell (i := 2 * k + 1) (by omega); unfold ints at this; rw [up_at, HY1.out] at this; exact this
      have fr : wN.drew.frozen? ⟨bC, 2 * k + 1, none⟩ = false := HRC2.out.frozen (2 * k + 1)
      have fc : wN.drew.cell? ⟨bC, 2 * k + 1, none⟩ = some (.int .i64 (partx (tim A B) (2 * k + 1) (2 * k + 1))) := HRC2.out.cell (i := 2 * k + 1) (by omega)
      obtain ⟨wM, hwM⟩ : ∃ wM, wN.drew = wM := ⟨_, rfl⟩
      rw [hwM] at c0 c1 d0 d1 fr fc
      rw [hwM]
      have HRC2 : Hid (wM.rowIs bC 23 256 (ints (partx (tim A B) (2 * k + 1)))) := Lib.hid (hwM ▸ HRC2.out)
      have HRA2 : Hid (wM.rowIs bA 23 256 (ints (up A))) := Lib.hid (hwM ▸ HRA2.out)
      have HRB2 : Hid (wM.rowIs bB 23 256 (ints (up B))) := Lib.hid (hwM ▸ HRB2.out)
      have HZ4 : Hid (wM.heap[bZ]? = some (.cells Z 23 (0, 0))) := Lib.hid (hwM ▸ HZ4.out)
      have HB4 : Hid (Below w.heap.size w wM) := Lib.hid (hwM ▸ HB4.out.drew)
      clear hwM
      refine wp_region_still_tail 26 (by kernel_rfl) (by kernel_rfl) ?_
      simp only [List.take_succ_cons, List.take_zero, List.drop_succ_cons, List.drop_zero]
      repeat still_step
      still_call (rmod_same _ (x0 * y1 + x1 * y0) _ (red_odd _ _ _ _) (by omega) (by omega))
      repeat still_step
      refine wpStill_nil ?_
      change wpList _ _ _ _ _ wM.drew
      go_wp2
      go_roundw
      case rel => exact ⟨k + 1, by omega, by go_num, Lib.hid (by have := partx_put HY.out HRC2.out; rw [show 2 * k + 1 + 1 = 2 * (k + 1) by omega] at this; exact this.drew), Lib.hid (HRA2.out.setOther (a := ⟨bC, 2 * k + 1, none⟩) (show bA ≠ bC by omega) _).drew, Lib.hid (HRB2.out.setOther (a := ⟨bC, 2 * k + 1, none⟩) (show bB ≠ bC by omega) _).drew, Lib.hid ((Below.heap_setCell wM ⟨bC, 2 * k + 1, none⟩ _ bZ (show bZ ≠ bC by omega)).trans HZ4.out), Lib.hid (HB4.out.setCell (p := ⟨bC, 2 * k + 1, none⟩) HLC _).drew⟩
      case measure => simp [intOf]; omega
    · obtain rfl : k = 128 := by omega
      obtain ⟨ds, hds, hD⟩ := of_row HRC.out
      have H1 := Lib.hid hds; have H2 := Lib.hid (show IsP ds (up (tim (redp p) (redp q))) by rw [HAE.out, HBE.out]; exact partx_all hD); have H3 := Lib.hid (poly_sized hD); have H4 := Lib.hid (show Z.size = ds.size by rw [HZ.out.1, hD.1]); clear hds hD
      go_wp2_with (first | (refine wpList_load_row rfl 23 (.tmp 5) rfl bC rfl 23 ds (0, 0) _ H1.out Try.underlying23 rfl H3.out ?_) | (refine wpList_store_row rfl 23 (.tmp 4) (.tmp 75) rfl bZ ds rfl rfl 23 Z HZ3.out H3.out H4.out H2.out.cells ?_))
      refine bodyPost_ret (v := .agg ds) (results_cell_row (p := 4) (ty := 23) (by kernel_rfl) _ _ bZ 23 ds (0, 0) _ rfl (setRow_heap _ _ _ _ _ _ HZ3.out) Try.underlying23 rfl H3.out) rfl ⟨ds, rfl, H2.out, below_setRow HB3.out HLZ.out _⟩
end Go.Proofs.Ytjaaldkkfdfkcaa.Sm
