/- Walks: NTT, Inverse. Written by tools/mk_smntt.py, then by hand. -/
import Derived.Test.YtaihlmedeebimaaLgWalkH
namespace Go.Proofs.Ytaihlmedeebimaa.Lg
open Go.RowKit
set_option linter.all false

/-- what both transforms have about them -/
structure NS (w W : World) (Z : Array Value) (g : Nat → F) (B k : Nat) : Prop where
  row : W.rowIs B 23 256 (ints (up g))
  pows : W.rowIs (B + 1) 22 256 (ints zvi)
  cnt : W.rowIs (B + 2) 3 1 (one1 k)
  res : W.heap[w.heap.size + 1]? = some (.cells Z 23 (0, 0))
  below : Below w.heap.size w W
  far : w.heap.size + 2 ≤ B
theorem nf_go : ∀ l, l < 8 → 1 ≤ nf l ∧ nf (l + 1) = nf l / 2 := by decide
theorem pow_bound : ∀ l, l < 8 → 2 ^ l - 1 + 2 ^ l ≤ 255 ∧ 1 ≤ 2 ^ l ∧ 2 ^ l - 1 + 2 ^ l = 2 ^ (l + 1) - 1 := by decide
theorem zs_fwd (l : Nat) (hl : l < 8) (b : Nat) (hb : b < 2 ^ l) : zv (2 ^ l - 1 + b + 1) = zf l b := by
  unfold zf
  rw [Nat.mod_eq_of_lt hb, show 2 ^ l - 1 + b + 1 = 2 ^ l + b by have := (pow_bound l hl).2.1; omega]
theorem zero_int : ∀ w, (zeroValue 3).run Try.prog w = .ok (.int .i64 0) w := by
  have h : (Try.prog.info? 3).map (fun i => i.zero) = some (some (.int .i64 0)) := by kernel_rfl
  obtain ⟨i, hi, e⟩ := Option.map_eq_some_iff.1 h
  intro w
  simp [zeroValue, typeInfo, hi, e]
theorem one1_of {w : World} {b k : Nat} {t : TypeId} (h : w.heap[b]? = some (.cells #[.int .i64 (k : Int)] t (0, 0))) : w.rowIs b t 1 (one1 k) := by
  refine ⟨_, h, rfl, fun i hi => ?_⟩
  obtain rfl : i = 0 := by omega
  rfl
theorem back_bound : ∀ l, l < 8 → 2 ^ (7 - l) + 2 ^ (7 - l) = 2 ^ (8 - l) ∧ 2 ^ (8 - l) ≤ 256 ∧ 2 ^ l ≤ 128 ∧ 2 ^ (l + 1) = 2 ^ l * 2 ∧ 1 ≤ 2 ^ l ∧ 8 - (l + 1) = 7 - l := by decide
theorem zs_back (l : Nat) (hl : l < 8) (b : Nat) (hb : b < 2 ^ (7 - l)) : - zv (2 ^ (7 - l) + 2 ^ (7 - l) - 1 - b) = zb l b := by
  unfold zb
  rw [Nat.mod_eq_of_lt hb, (back_bound l hl).1]
theorem pows_row {w : World} {b : Nat} {cs : Array Value} (h : w.heap[b]? = some (.cells cs 22 (0, 0))) (k : IsZ cs) : w.rowIs b 22 256 (ints zvi) := ⟨cs, h, k.1, k.2⟩

set_option maxHeartbeats 4000000 in
set_option maxRecDepth 100000 in
theorem ntt_any (cs : Array Value) (p : Nat → Int) (w : World) (hP : IsP cs p) (hF : Fits p) :
    Calls Try.prog 22 #[.agg cs] w fun e w' => ∃ ds, e = .returned (.agg ds) ∧ IsP ds (up (ntt (redp p))) ∧ Below w.heap.size w w' := by
  have hmf : ∀ (fn : Fn) (first cap : Array Value) (w : World), (Instr.makeFunc fn first cap).run Try.prog w = .ok (.func fn first cap) w := fun _ _ _ _ => rfl
  have HP := Lib.hid hP; have HF := Lib.hid hF; clear hP hF
  obtain ⟨Z, hz, hZ⟩ := zero_poly
  obtain ⟨Y, hy, hY1, hY2⟩ := zero_pow
  have hzi := zero_int
  have HZ := Lib.hid hZ; have HY := Lib.hid hY1; clear hZ hY1 hY2
  have es : (w.alloc (.cells cs 23)).heap.size = w.heap.size + 1 := by simp
  have HA := Lib.hid ((Below.heap_alloc (w.alloc (.cells cs 23)) (.cells Z 23) w.heap.size (by rw [es]; omega)).trans (heap_alloc_last w (.cells cs 23)))
  have hr := heap_alloc_last (w.alloc (.cells cs 23)) (.cells Z 23)
  rw [es] at hr
  have HR := Lib.hid hr; clear hr es
  have HB := Lib.hid (((Below.refl w.heap.size w).alloc (Nat.le_refl _) (.cells cs 23)).alloc (by simp) (.cells Z 23))
  go_enter Try.func22, Try.ntmps22
  go_wp2_with (refine wpList_load_row rfl 23 (.tmp 1) rfl w.heap.size rfl 23 cs (0, 0) _ HA.out Try.underlying23 rfl (poly_sized HP.out) ?_)
  refine (mod_any cs p _ HP.out HF.out).mono ?_
  rintro e w1 ⟨fs, rfl, hFs, hB1⟩
  have HFs := Lib.hid hFs; have HB1 := Lib.hid (HB.out.trans (hB1.mono (by simp; omega))); have HR1 := Lib.hid ((hB1.block _ (by simp)).trans HR.out)
  have hs1 : w.heap.size + 2 ≤ w1.heap.size := by have := hB1.size; simpa using this
  clear hFs hB1
  go_wp2_with fail
  refine (powers_any _).mono ?_
  rintro e w2 ⟨zs, rfl, hZs, hB2⟩
  have HZs := Lib.hid hZs; have HB2 := Lib.hid (HB1.out.trans (hB2.mono (by omega))); have HR2 := Lib.hid ((hB2.block _ (by omega)).trans HR1.out)
  have hs2 : w.heap.size + 2 ≤ w2.heap.size := by have := hB2.size; omega
  clear hZs hB2 HB HR HB1 HR1 hs1
  have f1 : (w2.alloc (.cells Z 23)).heap.size = w2.heap.size + 1 := by simp
  have f2 : ((w2.alloc (.cells Z 23)).alloc (.cells Y 22)).heap.size = w2.heap.size + 2 := by simp
  have r1 := heap_alloc_last w2 (.cells Z 23)
  have r2 := heap_alloc_last (w2.alloc (.cells Z 23)) (.cells Y 22)
  have r3 := heap_alloc_last ((w2.alloc (.cells Z 23)).alloc (.cells Y 22)) (.cells #[.int .i64 0] 3)
  have HB3 := Lib.hid (((HB2.out.alloc (by omega) (.cells Z 23)).alloc (by rw [f1]; omega) (.cells Y 22)).alloc (by rw [f2]; omega) (.cells #[.int .i64 0] 3))
  have HR3 := Lib.hid ((Below.heap_alloc ((w2.alloc (.cells Z 23)).alloc (.cells Y 22)) (.cells #[.int .i64 0] 3) (w.heap.size + 1) (by rw [f2]; omega)).trans ((Below.heap_alloc (w2.alloc (.cells Z 23)) (.cells Y 22) (w.heap.size + 1) (by rw [f1]; omega)).trans ((Below.heap_alloc w2 (.cells Z 23) (w.heap.size + 1) (by omega)).trans HR2.out)))
  have H1 := Lib.hid ((Below.heap_alloc ((w2.alloc (.cells Z 23)).alloc (.cells Y 22)) (.cells #[.int .i64 0] 3) w2.heap.size (by rw [f2]; omega)).trans ((Below.heap_alloc (w2.alloc (.cells Z 23)) (.cells Y 22) w2.heap.size (by rw [f1]; omega)).trans r1))
  have H2 := Lib.hid ((Below.heap_alloc ((w2.alloc (.cells Z 23)).alloc (.cells Y 22)) (.cells #[.int .i64 0] 3) _ (by rw [f1, f2]; omega)).trans r2)
  have H3 := Lib.hid r3
  rw [f1] at H2; rw [f2] at H3
  clear r1 r2 r3 f1 f2
  obtain ⟨W1, hW1⟩ : ∃ W1, ((w2.alloc (.cells Z 23)).alloc (.cells Y 22)).alloc (.cells #[.int .i64 0] 3) = W1 := ⟨_, rfl⟩
  rw [hW1] at HB3 HR3 H1 H2 H3
  have HW1 := Lib.hid hW1; clear hW1
  obtain ⟨B, hBe⟩ : ∃ B, w2.heap.size = B := ⟨_, rfl⟩
  have hfar : w.heap.size + 2 ≤ B := by omega
  rw [hBe] at H1 H2 H3
  have HBE := Lib.hid hBe; clear hBe hs2
  have HM1 := Lib.hid (show Z.size = fs.size by rw [HZ.out.1, HFs.out.1])
  have HM2 := Lib.hid (show Y.size = zs.size by rw [HY.out, HZs.out.1])
  have HI1 := Lib.hid (poly_sized HFs.out)
  have HI2 := Lib.hid (pow_sized HZs.out)
  have HE2 := Lib.hid ((setRow_other W1 B (B + 1) fs (by omega)).trans H2.out)
  have hk3 : ((W1.setRow B fs).setRow (B + 1) zs).heap[B + 1 + 1]? = some (.cells #[.int .i64 0] 3 (0, 0)) := (setRow_other _ _ _ _ (show B + 1 + 1 ≠ B + 1 by omega)).trans ((setRow_other _ _ _ _ (show B + 1 + 1 ≠ B by omega)).trans H3.out)
  have hrow3 : ((W1.setRow B fs).setRow (B + 1) zs).rowIs (B + 1 + 1) 3 1 (one1 0) := one1_of (k := 0) hk3
  have HN : Hid (NS w (((W1.setRow B fs).setRow (B + 1) zs).setCell ⟨B + 1 + 1, 0, none⟩ (.int .i64 ((0 : Nat) : Int))) Z (redp p) B 0) := Lib.hid
    ⟨(row_of ((setRow_other _ _ _ _ (show B ≠ B + 1 by omega)).trans (setRow_heap W1 _ _ _ _ _ H1.out)) HFs.out).setOther (by show B ≠ B + 1 + 1; omega) _, (pows_row (setRow_heap _ _ _ _ _ _ HE2.out) HZs.out).setOther (by show B + 1 ≠ B + 1 + 1; omega) _,
      one1_set hrow3, (Below.heap_setCell _ _ _ _ (by show w.heap.size + 1 ≠ B + 1 + 1; omega)).trans ((setRow_other _ _ _ _ (show w.heap.size + 1 ≠ B + 1 by omega)).trans ((setRow_other _ _ _ _ (show w.heap.size + 1 ≠ B by omega)).trans HR3.out)),
      (below_setRow (below_setRow HB3.out (show w.heap.size ≤ B by omega) fs) (show w.heap.size ≤ B + 1 by omega) zs).setCell (by show w.heap.size ≤ B + 1 + 1; omega) _, hfar⟩
  have d3 := hrow3.frozen 0
  have c3 := hrow3.cell (i := 0) (by omega)
  unfold one1 at c3
  have HC3 := Lib.hid hrow3
  clear hk3 hrow3
  go_wp2_with (first | (refine wpList_store_row rfl 23 (.tmp 3) (.tmp 9) rfl w2.heap.size fs rfl rfl 23 Z (by rw [HW1.out, HBE.out]; exact H1.out) HI1.out HM1.out HFs.out.cells ?_; rw [HW1.out, HBE.out]) | (refine wpList_store_row rfl 22 (.tmp 4) (.tmp 10) rfl (B + 1) zs rfl rfl 22 Y HE2.out HI2.out HM2.out HZs.out.cells ?_))
  generalize hWL : ((W1.setRow B fs).setRow (B + 1) zs).setCell ⟨B + 1 + 1, 0, none⟩ (.int .i64 0) = WL
  have HN' : Hid (NS w WL Z (redp p) B 0) := Lib.hid (hWL ▸ HN.out)
  clear hWL HN d3 c3 HC3 HE2 HM1 HM2 HI1 HI2 H1 H2 H3 HB3 HR3 HB2 HR2 HFs HZs HW1 HBE hz hy hzi HA HY HP HF
  go_loopw [7] (fun i W => ∃ l n : Nat, l ≤ 8 ∧ Hid (n = nf l) ∧ n ≤ 128 ∧ i = .int .i64 n ∧ Hid (NS w W Z (nttTo l (redp p)) B (2 ^ l - 1))) (fun i _ => (intOf i).toNat)
  case atStart => exact ⟨0, 128, by omega, Lib.hid (by decide), by omega, rfl, HN'⟩
  case round =>
    obtain ⟨l, n, hl, HNF, hn2, rfl, HV⟩ := hrel
    clear HN'
    by_cases hlt : l < 8
    · have hn3 : 1 ≤ n := by have := HNF.out; have := (nf_go l hlt).1; omega
      obtain ⟨es, hes, hE⟩ := of_row HV.out.row
      have HES := Lib.hid hes; have HE := Lib.hid hE; clear hes hE
      go_wp2_with (refine wpList_load_row rfl 23 (.tmp 3) rfl B rfl 23 es (0, 0) _ HES.out Try.underlying23 rfl (poly_sized HE.out) ?_)
      refine (levelF_any es (nttTo l (redp p)) n (2 ^ l) (2 ^ l - 1) (B + 1 + 1) (B + 1) _ HE.out (by omega) (by rw [HNF.out]; exact nf_whole l hlt) (pow_bound l hlt).1 HV.out.cnt HV.out.pows (by omega)).mono ?_
      rintro e' w3 ⟨ds, rfl, hD, hc, hG⟩
      have hD' : IsP ds (up (nttTo (l + 1) (redp p))) := hD.eqv (by
        show Eqv _ (lev ch0 (zf l) (nf l) (nttTo l (redp p)))
        rw [← HNF.out]
        exact lev_eqv ch0 _ _ n (2 ^ l) (by rw [HNF.out]; exact nf_whole l hlt) (fun b hb => zs_fwd l hlt b hb) (Eqv.refl _))
      rw [(pow_bound l hlt).2.2] at hc
      have hlb := HV.out.cnt.lt; have hlp := HV.out.pows.lt; have hlr := HV.out.row.lt
      have HD := Lib.hid hD'; have HC := Lib.hid hc
      have HQ := Lib.hid ((hG.block B hlr (by intro e; injection e; omega)).trans HES.out)
      have HPW := Lib.hid (HV.out.pows.of_block (hG.block (B + 1) hlp (by intro e; injection e; omega)))
      have HRS := Lib.hid ((hG.block (w.heap.size + 1) (by omega) (by intro e; injection e; omega)).trans HV.out.res)
      have HBL : Hid (Below w.heap.size w w3) := Lib.hid (HV.out.below.grown hG (by omega) (by intro k e; injection e; omega))
      have HM := Lib.hid (show es.size = ds.size by rw [HE.out.1, hD.1])
      clear hD hD' hc hG
      go_wp2_with (refine wpList_store_row rfl 23 (.tmp 3) (.tmp 19) rfl B ds rfl rfl 23 es HQ.out (poly_sized HD.out) HM.out HD.out.cells ?_)
      go_roundw
      case rel => exact ⟨l + 1, n / 2, by omega, Lib.hid (by rw [(nf_go l hlt).2, HNF.out]), by omega, by go_num, Lib.hid ⟨row_of (setRow_heap _ _ _ _ _ _ HQ.out) HD.out, HPW.out.of_block (setRow_other _ _ _ _ (show B + 1 ≠ B by omega)), HC.out.of_block (setRow_other _ _ _ _ (show B + 2 ≠ B by omega)), (setRow_other _ _ _ _ (show w.heap.size + 1 ≠ B by omega)).trans HRS.out, below_setRow HBL.out (show w.heap.size ≤ B by omega) _, hfar⟩⟩
      case measure => simp [intOf]; omega
    · obtain rfl : l = 8 := by omega
      have hn7 : n = 0 := by rw [HNF.out]; decide
      subst hn7
      obtain ⟨ds, hds, hD⟩ := of_row HV.out.row
      have H1 := Lib.hid hds; have H2 := Lib.hid (show IsP ds (up (ntt (redp p))) from hD); have H3 := Lib.hid (poly_sized hD); have H4 := Lib.hid (show Z.size = ds.size by rw [HZ.out.1, hD.1]); clear hds hD
      go_wp2_with (first | (refine wpList_load_row rfl 23 (.tmp 3) rfl B rfl 23 ds (0, 0) _ H1.out Try.underlying23 rfl H3.out ?_) | (refine wpList_store_row rfl 23 (.tmp 2) (.tmp 20) rfl (w.heap.size + 1) ds rfl rfl 23 Z HV.out.res H3.out H4.out H2.out.cells ?_))
      refine bodyPost_ret (v := .agg ds) (results_cell_row (p := 2) (ty := 23) (by kernel_rfl) _ _ (w.heap.size + 1) 23 ds (0, 0) _ rfl (setRow_heap _ _ _ _ _ _ HV.out.res) Try.underlying23 rfl H3.out) rfl ⟨ds, rfl, H2.out, below_setRow HV.out.below (by omega) _⟩

set_option maxHeartbeats 4000000 in
set_option maxRecDepth 100000 in
theorem inv_any (cs : Array Value) (p : Nat → Int) (w : World) (hP : IsP cs p) (hF : Fits p) :
    Calls Try.prog 24 #[.agg cs] w fun e w' => ∃ ds, e = .returned (.agg ds) ∧ IsP ds (up (inv (redp p))) ∧ Below w.heap.size w w' := by
  have hmf : ∀ (fn : Fn) (first cap : Array Value) (w : World), (Instr.makeFunc fn first cap).run Try.prog w = .ok (.func fn first cap) w := fun _ _ _ _ => rfl
  have HP := Lib.hid hP; have HF := Lib.hid hF; clear hP hF
  obtain ⟨Z, hz, hZ⟩ := zero_poly
  obtain ⟨Y, hy, hY1, hY2⟩ := zero_pow
  have hzi := zero_int
  have HZ := Lib.hid hZ; have HY := Lib.hid hY1; clear hZ hY1 hY2
  have es : (w.alloc (.cells cs 23)).heap.size = w.heap.size + 1 := by simp
  have HA := Lib.hid ((Below.heap_alloc (w.alloc (.cells cs 23)) (.cells Z 23) w.heap.size (by rw [es]; omega)).trans (heap_alloc_last w (.cells cs 23)))
  have hr := heap_alloc_last (w.alloc (.cells cs 23)) (.cells Z 23)
  rw [es] at hr
  have HR := Lib.hid hr; clear hr es
  have HB := Lib.hid (((Below.refl w.heap.size w).alloc (Nat.le_refl _) (.cells cs 23)).alloc (by simp) (.cells Z 23))
  go_enter Try.func24, Try.ntmps24
  go_wp2_with (refine wpList_load_row rfl 23 (.tmp 1) rfl w.heap.size rfl 23 cs (0, 0) _ HA.out Try.underlying23 rfl (poly_sized HP.out) ?_)
  refine (mod_any cs p _ HP.out HF.out).mono ?_
  rintro e w1 ⟨fs, rfl, hFs, hB1⟩
  have HFs := Lib.hid hFs; have HB1 := Lib.hid (HB.out.trans (hB1.mono (by simp; omega))); have HR1 := Lib.hid ((hB1.block _ (by simp)).trans HR.out)
  have hs1 : w.heap.size + 2 ≤ w1.heap.size := by have := hB1.size; simpa using this
  clear hFs hB1
  go_wp2_with fail
  refine (powers_any _).mono ?_
  rintro e w2 ⟨zs, rfl, hZs, hB2⟩
  have HZs := Lib.hid hZs; have HB2 := Lib.hid (HB1.out.trans (hB2.mono (by omega))); have HR2 := Lib.hid ((hB2.block _ (by omega)).trans HR1.out)
  have hs2 : w.heap.size + 2 ≤ w2.heap.size := by have := hB2.size; omega
  clear hZs hB2 HB HR HB1 HR1 hs1
  have f1 : (w2.alloc (.cells Z 23)).heap.size = w2.heap.size + 1 := by simp
  have f2 : ((w2.alloc (.cells Z 23)).alloc (.cells Y 22)).heap.size = w2.heap.size + 2 := by simp
  have r1 := heap_alloc_last w2 (.cells Z 23)
  have r2 := heap_alloc_last (w2.alloc (.cells Z 23)) (.cells Y 22)
  have r3 := heap_alloc_last ((w2.alloc (.cells Z 23)).alloc (.cells Y 22)) (.cells #[.int .i64 0] 3)
  have HB3 := Lib.hid (((HB2.out.alloc (by omega) (.cells Z 23)).alloc (by rw [f1]; omega) (.cells Y 22)).alloc (by rw [f2]; omega) (.cells #[.int .i64 0] 3))
  have HR3 := Lib.hid ((Below.heap_alloc ((w2.alloc (.cells Z 23)).alloc (.cells Y 22)) (.cells #[.int .i64 0] 3) (w.heap.size + 1) (by rw [f2]; omega)).trans ((Below.heap_alloc (w2.alloc (.cells Z 23)) (.cells Y 22) (w.heap.size + 1) (by rw [f1]; omega)).trans ((Below.heap_alloc w2 (.cells Z 23) (w.heap.size + 1) (by omega)).trans HR2.out)))
  have H1 := Lib.hid ((Below.heap_alloc ((w2.alloc (.cells Z 23)).alloc (.cells Y 22)) (.cells #[.int .i64 0] 3) w2.heap.size (by rw [f2]; omega)).trans ((Below.heap_alloc (w2.alloc (.cells Z 23)) (.cells Y 22) w2.heap.size (by rw [f1]; omega)).trans r1))
  have H2 := Lib.hid ((Below.heap_alloc ((w2.alloc (.cells Z 23)).alloc (.cells Y 22)) (.cells #[.int .i64 0] 3) _ (by rw [f1, f2]; omega)).trans r2)
  have H3 := Lib.hid r3
  rw [f1] at H2; rw [f2] at H3
  clear r1 r2 r3 f1 f2
  obtain ⟨W1, hW1⟩ : ∃ W1, ((w2.alloc (.cells Z 23)).alloc (.cells Y 22)).alloc (.cells #[.int .i64 0] 3) = W1 := ⟨_, rfl⟩
  rw [hW1] at HB3 HR3 H1 H2 H3
  have HW1 := Lib.hid hW1; clear hW1
  obtain ⟨B, hBe⟩ : ∃ B, w2.heap.size = B := ⟨_, rfl⟩
  have hfar : w.heap.size + 2 ≤ B := by omega
  rw [hBe] at H1 H2 H3
  have HBE := Lib.hid hBe; clear hBe hs2
  have HM1 := Lib.hid (show Z.size = fs.size by rw [HZ.out.1, HFs.out.1])
  have HM2 := Lib.hid (show Y.size = zs.size by rw [HY.out, HZs.out.1])
  have HI1 := Lib.hid (poly_sized HFs.out)
  have HI2 := Lib.hid (pow_sized HZs.out)
  have HE2 := Lib.hid ((setRow_other W1 B (B + 1) fs (by omega)).trans H2.out)
  have hk3 : ((W1.setRow B fs).setRow (B + 1) zs).heap[B + 1 + 1]? = some (.cells #[.int .i64 0] 3 (0, 0)) := (setRow_other _ _ _ _ (show B + 1 + 1 ≠ B + 1 by omega)).trans ((setRow_other _ _ _ _ (show B + 1 + 1 ≠ B by omega)).trans H3.out)
  have hrow3 : ((W1.setRow B fs).setRow (B + 1) zs).rowIs (B + 1 + 1) 3 1 (one1 0) := one1_of (k := 0) hk3
  have HN : Hid (NS w (((W1.setRow B fs).setRow (B + 1) zs).setCell ⟨B + 1 + 1, 0, none⟩ (.int .i64 ((256 : Nat) : Int))) Z (redp p) B 256) := Lib.hid
    ⟨(row_of ((setRow_other _ _ _ _ (show B ≠ B + 1 by omega)).trans (setRow_heap W1 _ _ _ _ _ H1.out)) HFs.out).setOther (by show B ≠ B + 1 + 1; omega) _, (pows_row (setRow_heap _ _ _ _ _ _ HE2.out) HZs.out).setOther (by show B + 1 ≠ B + 1 + 1; omega) _,
      one1_set hrow3, (Below.heap_setCell _ _ _ _ (by show w.heap.size + 1 ≠ B + 1 + 1; omega)).trans ((setRow_other _ _ _ _ (show w.heap.size + 1 ≠ B + 1 by omega)).trans ((setRow_other _ _ _ _ (show w.heap.size + 1 ≠ B by omega)).trans HR3.out)),
      (below_setRow (below_setRow HB3.out (show w.heap.size ≤ B by omega) fs) (show w.heap.size ≤ B + 1 by omega) zs).setCell (by show w.heap.size ≤ B + 1 + 1; omega) _, hfar⟩
  have d3 := hrow3.frozen 0
  have c3 := hrow3.cell (i := 0) (by omega)
  unfold one1 at c3
  have HC3 := Lib.hid hrow3
  clear hk3 hrow3
  go_wp2_with (first | (refine wpList_store_row rfl 23 (.tmp 3) (.tmp 9) rfl w2.heap.size fs rfl rfl 23 Z (by rw [HW1.out, HBE.out]; exact H1.out) HI1.out HM1.out HFs.out.cells ?_; rw [HW1.out, HBE.out]) | (refine wpList_store_row rfl 22 (.tmp 4) (.tmp 10) rfl (B + 1) zs rfl rfl 22 Y HE2.out HI2.out HM2.out HZs.out.cells ?_))
  generalize hWL : ((W1.setRow B fs).setRow (B + 1) zs).setCell ⟨B + 1 + 1, 0, none⟩ (.int .i64 256) = WL
  have HN' : Hid (NS w WL Z (redp p) B 256) := Lib.hid (hWL ▸ HN.out)
  clear hWL HN d3 c3 HC3 HE2 HM1 HM2 HI1 HI2 H1 H2 H3 HB3 HR3 HB2 HR2 HFs HZs HW1 HBE hz hy hzi HA HY HP HF
  go_loopw [7] (fun i W => ∃ l n : Nat, l ≤ 8 ∧ Hid (n = 2 ^ l) ∧ 1 ≤ n ∧ n ≤ 256 ∧ i = .int .i64 n ∧ Hid (NS w W Z (invTo l (redp p)) B (2 ^ (8 - l)))) (fun i _ => 256 - (intOf i).toNat)
  case atStart => exact ⟨0, 1, by omega, Lib.hid (by decide), by omega, by omega, rfl, HN'⟩
  case round =>
    obtain ⟨l, n, hl, HNF, hn1, hn2, rfl, HV⟩ := hrel
    clear HN'
    by_cases hlt : l < 8
    · have hn3 : n ≤ 128 := by rw [HNF.out]; exact (back_bound l hlt).2.2.1
      obtain ⟨es, hes, hE⟩ := of_row HV.out.row
      have HES := Lib.hid hes; have HE := Lib.hid hE; clear hes hE
      go_wp2_with (refine wpList_load_row rfl 23 (.tmp 3) rfl B rfl 23 es (0, 0) _ HES.out Try.underlying23 rfl (poly_sized HE.out) ?_)
      have hcn := HV.out.cnt
      rw [← (back_bound l hlt).1] at hcn
      have HCN := Lib.hid hcn; clear hcn
      refine (levelB_any es (invTo l (redp p)) n (2 ^ (7 - l)) (2 ^ (7 - l)) (B + 1 + 1) (B + 1) _ HE.out (by omega) (by rw [HNF.out]; exact nb_whole l hlt) (by rw [(back_bound l hlt).1]; exact (back_bound l hlt).2.1) HCN.out HV.out.pows (by omega)).mono ?_
      rintro e' w3 ⟨ds, rfl, hD, hc, hG⟩
      have hD' : IsP ds (up (invTo (l + 1) (redp p))) := hD.eqv (by
        show Eqv _ (lev ch1 (zb l) (2 ^ l) (invTo l (redp p)))
        rw [← HNF.out]
        exact lev_eqv ch1 _ _ n (2 ^ (7 - l)) (by rw [HNF.out]; exact nb_whole l hlt) (fun b hb => zs_back l hlt b hb) (Eqv.refl _))
      rw [← (back_bound l hlt).2.2.2.2.2] at hc
      have hlb := HV.out.cnt.lt; have hlp := HV.out.pows.lt; have hlr := HV.out.row.lt
      have HD := Lib.hid hD'; have HC := Lib.hid hc
      have HQ := Lib.hid ((hG.block B hlr (by intro e; injection e; omega)).trans HES.out)
      have HPW := Lib.hid (HV.out.pows.of_block (hG.block (B + 1) hlp (by intro e; injection e; omega)))
      have HRS := Lib.hid ((hG.block (w.heap.size + 1) (by omega) (by intro e; injection e; omega)).trans HV.out.res)
      have HBL : Hid (Below w.heap.size w w3) := Lib.hid (HV.out.below.grown hG (by omega) (by intro k e; injection e; omega))
      have HM := Lib.hid (show es.size = ds.size by rw [HE.out.1, hD.1])
      clear hD hD' hc hG
      go_wp2_with (refine wpList_store_row rfl 23 (.tmp 3) (.tmp 19) rfl B ds rfl rfl 23 es HQ.out (poly_sized HD.out) HM.out HD.out.cells ?_)
      go_roundw
      case rel => exact ⟨l + 1, n * 2, by omega, Lib.hid (by rw [(back_bound l hlt).2.2.2.1, HNF.out]), by omega, by omega, by go_num, Lib.hid ⟨row_of (setRow_heap _ _ _ _ _ _ HQ.out) HD.out, HPW.out.of_block (setRow_other _ _ _ _ (show B + 1 ≠ B by omega)), HC.out.of_block (setRow_other _ _ _ _ (show B + 2 ≠ B by omega)), (setRow_other _ _ _ _ (show w.heap.size + 1 ≠ B by omega)).trans HRS.out, below_setRow HBL.out (show w.heap.size ≤ B by omega) _, hfar⟩⟩
      case measure => simp [intOf]; omega
    · obtain rfl : l = 8 := by omega
      have hn7 : n = 256 := by rw [HNF.out]
      subst hn7
      have hlr := HV.out.row.lt
      go_wp2_with fail
      refine (each_inv2 ⟨B, 0, none⟩ (up (inv (redp p))) _ (fun W i hi hB => inv2_any B _ i W hi (below_at hB HV.out.row HV.out.row.lt))).mono ?_
      rintro e' w3 ⟨ds, rfl, hD, hB⟩
      have H2 := Lib.hid hD; have H3 := Lib.hid (poly_sized hD); have H4 := Lib.hid (show Z.size = ds.size by rw [HZ.out.1, hD.1])
      have HRS := Lib.hid ((hB.block (w.heap.size + 1) (by omega)).trans HV.out.res)
      have HBL := Lib.hid (HV.out.below.trans (hB.mono HV.out.below.size))
      clear hD hB
      go_wp2_with (refine wpList_store_row rfl 23 (.tmp 2) (.tmp 21) rfl (w.heap.size + 1) ds rfl rfl 23 Z HRS.out H3.out H4.out H2.out.cells ?_)
      refine bodyPost_ret (v := .agg ds) (results_cell_row (p := 2) (ty := 23) (by kernel_rfl) _ _ (w.heap.size + 1) 23 ds (0, 0) _ rfl (setRow_heap _ _ _ _ _ _ HRS.out) Try.underlying23 rfl H3.out) rfl ⟨ds, rfl, H2.out, below_setRow HBL.out (by omega) _⟩

end Go.Proofs.Ytaihlmedeebimaa.Lg
