/- Walks: Times. Written by tools/mk_smtimes.py. -/
import Derived.Test.YtjaaldkkfdfkcaaSmWalkI
namespace Go.Proofs.Ytjaaldkkfdfkcaa.Sm
open Go.RowKit
set_option linter.all false

theorem partx_put {w : World} {b k : Nat} {t : TypeId} {x : Nat → F} {v : F} (hv : x k = v) (h : w.rowIs b t 256 (ints (partx x k))) : (w.setCell ⟨b, k, none⟩ (.int .i64 (nv v))).rowIs b t 256 (ints (partx x (k + 1))) := by
  rw [← hv]; exact partx_succ h
theorem number_same (n : Int) (x : F) (w : World) (h : red n = x) (h1 : -9223372036854775808 ≤ n) (h2 : n ≤ 9223372036854775807) :
    Calls Try.prog 37 #[.int .i64 n] w fun e w' => e = .returned (.int .i64 (nv x)) ∧ w' = w :=
  (number_is n x w h h1 h2).mono fun _ _ ⟨h, h'⟩ => ⟨h, h'.symm⟩
theorem red_gam (k : Nat) : red (nv (zv k * zv k) * 17) = gam k := by rw [red_mul, red_nv]; rfl
theorem red_even (a b c d g : F) : red (nv a * nv b + nv g * nv (c * d)) = a * b + g * (c * d) := by rw [red_add, red_mul_nv, red_mul_nv]
theorem red_odd (a b c d : F) : red (nv a * nv b + nv c * nv d) = a * b + c * d := by rw [red_add, red_mul_nv, red_mul_nv]

set_option maxHeartbeats 8000000 in
set_option maxRecDepth 100000 in
theorem tim_any (cs es : Array Value) (p q : Nat → Int) (w : World) (hP : IsP cs p) (hQ : IsP es q) (hFp : Fits p) (hFq : Fits q) :
    Calls Try.prog 20 #[.agg cs, .agg es] w fun e w' => ∃ ds, e = .returned (.agg ds) ∧ IsP ds (up (tim (redp p) (redp q))) ∧ Below w.heap.size w w' := by
  have hmf : ∀ (fn : Fn) (first cap : Array Value) (w : World), (Instr.makeFunc fn first cap).run Try.prog w = .ok (.func fn first cap) w := fun _ _ _ _ => rfl
  have HP := Lib.hid hP; have HQ := Lib.hid hQ; have HFp := Lib.hid hFp; have HFq := Lib.hid hFq; clear hP hQ hFp hFq
  obtain ⟨Z, hz, hZ⟩ := zero_poly
  have HZ := Lib.hid hZ; clear hZ
  have HZW := Lib.hid hz
  go_enter Try.func20, Try.ntmps20
  go_wp2
  have e1 : (w.alloc (.cells cs 23)).heap.size = w.heap.size + 1 := by simp
  have e2 : ((w.alloc (.cells cs 23)).alloc (.cells es 23)).heap.size = w.heap.size + 2 := by simp
  have HA0 := Lib.hid (heap_alloc_last w (.cells cs 23))
  have HB0 := Lib.hid (heap_alloc_last (w.alloc (.cells cs 23)) (.cells es 23))
  have HZ0 := Lib.hid (heap_alloc_last ((w.alloc (.cells cs 23)).alloc (.cells es 23)) (.cells Z 23))
  have HBW : Hid (Below w.heap.size w (((w.alloc (.cells cs 23)).alloc (.cells es 23)).alloc (.cells Z 23))) := Lib.hid ((((Below.refl _ _).alloc (Nat.le_refl _) _).alloc (by simp) _).alloc (by simp; omega) _)
  have HA : Hid ((((w.alloc (.cells cs 23)).alloc (.cells es 23)).alloc (.cells Z 23)).heap[w.heap.size]? = some (.cells cs 23 (0, 0))) := Lib.hid ((Below.heap_alloc _ _ _ (by rw [e2]; omega)).trans ((Below.heap_alloc _ _ _ (by rw [e1]; omega)).trans HA0.out))
  have HB : Hid ((((w.alloc (.cells cs 23)).alloc (.cells es 23)).alloc (.cells Z 23)).heap[w.heap.size + 1]? = some (.cells es 23 (0, 0))) := Lib.hid ((Below.heap_alloc _ _ _ (by rw [e2]; omega)).trans (by rw [← e1]; exact HB0.out))
  have HZA : Hid ((((w.alloc (.cells cs 23)).alloc (.cells es 23)).alloc (.cells Z 23)).heap[w.heap.size + 2]? = some (.cells Z 23 (0, 0))) := Lib.hid (by rw [← e2]; exact HZ0.out)
  have e3 : (((w.alloc (.cells cs 23)).alloc (.cells es 23)).alloc (.cells Z 23)).heap.size = w.heap.size + 3 := by simp
  clear HA0 HB0 HZ0 e1 e2
  change Code.wp _ _ _ _ (((w.alloc (.cells cs 23)).alloc (.cells es 23)).alloc (.cells Z 23))
  generalize ((w.alloc (.cells cs 23)).alloc (.cells es 23)).alloc (.cells Z 23) = wA at *
  obtain ⟨bA, hbA⟩ : ∃ b, w.heap.size = b := ⟨_, rfl⟩
  obtain ⟨bB, hbB⟩ : ∃ b, w.heap.size + 1 = b := ⟨_, rfl⟩
  obtain ⟨bZ, hbZ⟩ : ∃ b, w.heap.size + 2 = b := ⟨_, rfl⟩
  have HSA : Hid (bA < wA.heap.size) := Lib.hid (by omega)
  have HSB : Hid (bB < wA.heap.size) := Lib.hid (by omega)
  have HSZ : Hid (bZ < wA.heap.size) := Lib.hid (by omega)
  have HSW : Hid (w.heap.size ≤ wA.heap.size) := Lib.hid (by omega)
  have HLA : Hid (w.heap.size ≤ bA) := Lib.hid (by omega)
  have HLB : Hid (w.heap.size ≤ bB) := Lib.hid (by omega)
  have HLZ : Hid (w.heap.size ≤ bZ) := Lib.hid (by omega)
  have HNE : Hid (bB ≠ bA) := Lib.hid (by omega)
  have HNZ1 : Hid (bZ ≠ bA) := Lib.hid (by omega)
  have HNZ2 : Hid (bZ ≠ bB) := Lib.hid (by omega)
  rw [hbA] at HA; rw [hbB] at HB; rw [hbZ] at HZA
  rw [hbZ, hbB, hbA]
  clear hbA hbB hbZ e3
  refine region_calm ?_
  refine wp_region_any (by kernel_rfl) ?_
  change wpAny _ _ _ _ _ _ _ (World.drew _)
  refine have T2 : ∀ (ds1 : Array Value) (w1 : World), IsP ds1 (up (redp p)) → Below wA.heap.size wA w1 → wpAny ?tP ?tm ?to ?tQ 3 ?tl ((?ta : Array Value → Act) ds1) w1 := ?t2; ?main
  case main =>
    refine have T1 : wpAny ?tP1 ?tm1 ?to1 ?tQ1 4 ?tl1 ?ta1 wA.drew := ?t1; ?main1
    case main1 =>
      refine wpAny_ready (rs := [0, 2]) (by kernel_rfl) (by simp) ?_
      refine AllReady.cons rfl (fun K hK => ?_) (AllReady.cons rfl (fun K hK => ?_) AllReady.nil)
      · simp only [List.getElem_toArray, List.getElem_cons_succ, List.getElem_cons_zero]
        refine step_of (by rfl) (wp_load_row 23 (.tmp 2) rfl bA rfl 23 _ (0, 0) _ (HA.out : wA.drew.heap[_]? = _) Try.underlying23 rfl (poly_sized HP.out) (hK _ _ ?_))
        clear hK K
        try simp only [List.getElem_toArray, List.getElem_cons_succ, List.getElem_cons_zero, Act.put, List.setIfInBounds_toArray, List.set_cons_zero, List.set_cons_succ]
        refine wpAny_ready (rs := [1, 2]) (by kernel_rfl) (by simp) ?_
        refine AllReady.cons rfl (fun K hK => ?_) (AllReady.cons rfl (fun K hK => ?_) AllReady.nil)
        · simp only [List.getElem_toArray, List.getElem_cons_succ, List.getElem_cons_zero]
          go_simp
          refine (mod_any _ _ _ HP.out HFp.out).mono ?_
          rintro e' w1 ⟨ds1, rfl, hdds1, hBw1⟩
          try replace hBw1 := below_of_drew hBw1
          refine hK _ _ ?_
          clear hK K
          try simp only [List.getElem_toArray, List.getElem_cons_succ, List.getElem_cons_zero, Act.put, List.setIfInBounds_toArray, List.set_cons_zero, List.set_cons_succ]
          refine wpAny_ready (rs := [2]) (by kernel_rfl) (by simp) ?_
          refine AllReady.cons rfl (fun K hK => ?_) AllReady.nil
          simp only [List.getElem_toArray, List.getElem_cons_succ, List.getElem_cons_zero]
          refine step_of (by rfl) (wp_load_row 23 (.tmp 3) rfl bB rfl 23 _ (0, 0) _ ((hBw1.block _ HSB.out).trans (HB.out : wA.drew.heap[_]? = _)) Try.underlying23 rfl (poly_sized HQ.out) (hK _ _ ?_))
          clear hK K
          try simp only [List.getElem_toArray, List.getElem_cons_succ, List.getElem_cons_zero, Act.put, List.setIfInBounds_toArray, List.set_cons_zero, List.set_cons_succ]
          exact T2 ds1 w1 hdds1 hBw1
        · simp only [List.getElem_toArray, List.getElem_cons_succ, List.getElem_cons_zero]
          refine step_of (by rfl) (wp_load_row 23 (.tmp 3) rfl bB rfl 23 _ (0, 0) _ (HB.out : wA.drew.heap[_]? = _) Try.underlying23 rfl (poly_sized HQ.out) (hK _ _ ?_))
          clear hK K
          try simp only [List.getElem_toArray, List.getElem_cons_succ, List.getElem_cons_zero, Act.put, List.setIfInBounds_toArray, List.set_cons_zero, List.set_cons_succ]
          exact T1
      · simp only [List.getElem_toArray, List.getElem_cons_succ, List.getElem_cons_zero]
        refine step_of (by rfl) (wp_load_row 23 (.tmp 3) rfl bB rfl 23 _ (0, 0) _ (HB.out : wA.drew.heap[_]? = _) Try.underlying23 rfl (poly_sized HQ.out) (hK _ _ ?_))
        clear hK K
        try simp only [List.getElem_toArray, List.getElem_cons_succ, List.getElem_cons_zero, Act.put, List.setIfInBounds_toArray, List.set_cons_zero, List.set_cons_succ]
        refine wpAny_ready (rs := [0]) (by kernel_rfl) (by simp) ?_
        refine AllReady.cons rfl (fun K hK => ?_) AllReady.nil
        simp only [List.getElem_toArray, List.getElem_cons_succ, List.getElem_cons_zero]
        refine step_of (by rfl) (wp_load_row 23 (.tmp 2) rfl bA rfl 23 _ (0, 0) _ (HA.out : wA.drew.heap[_]? = _) Try.underlying23 rfl (poly_sized HP.out) (hK _ _ ?_))
        clear hK K
        try simp only [List.getElem_toArray, List.getElem_cons_succ, List.getElem_cons_zero, Act.put, List.setIfInBounds_toArray, List.set_cons_zero, List.set_cons_succ]
        exact T1
    case t1 =>
      refine wpAny_ready (rs := [1]) (by kernel_rfl) (by simp) ?_
      refine AllReady.cons rfl (fun K hK => ?_) AllReady.nil
      simp only [List.getElem_toArray, List.getElem_cons_succ, List.getElem_cons_zero]
      go_simp
      refine (mod_any _ _ _ HP.out HFp.out).mono ?_
      rintro e' w1 ⟨ds1, rfl, hdds1, hBw1⟩
      try replace hBw1 := below_of_drew hBw1
      refine hK _ _ ?_
      clear hK K
      try simp only [List.getElem_toArray, List.getElem_cons_succ, List.getElem_cons_zero, Act.put, List.setIfInBounds_toArray, List.set_cons_zero, List.set_cons_succ]
      exact T2 ds1 w1 hdds1 hBw1
  case t2 =>
    intro ds1 w1 hds1 hB1
    refine wpAny_ready (rs := [3]) (by kernel_rfl) (by simp) ?_
    refine AllReady.cons rfl (fun K hK => ?_) AllReady.nil
    simp only [List.getElem_toArray, List.getElem_cons_succ, List.getElem_cons_zero]
    go_simp
    refine (mod_any _ _ _ HQ.out HFq.out).mono ?_
    rintro e' w2 ⟨ds2, rfl, hdds2, hBw2⟩
    try replace hBw2 := below_of_drew hBw2
    refine hK _ _ ?_
    clear hK K
    try simp only [List.getElem_toArray, List.getElem_cons_succ, List.getElem_cons_zero, Act.put, List.setIfInBounds_toArray, List.set_cons_zero, List.set_cons_succ]
    have HB12 := Lib.hid (hB1.trans (hBw2.mono hB1.size))
    have HD1 := Lib.hid hds1; have HD2 := Lib.hid hdds2
    have HI1 := Lib.hid (poly_sized hds1); have HI2 := Lib.hid (poly_sized hdds2)
    have HM1 := Lib.hid (show cs.size = ds1.size by rw [HP.out.1, hds1.1])
    have HM2 := Lib.hid (show es.size = ds2.size by rw [HQ.out.1, hdds2.1])
    have HA2 := Lib.hid ((HB12.out.block _ HSA.out).trans HA.out)
    have HB2 := Lib.hid ((HB12.out.block _ HSB.out).trans HB.out)
    clear hds1 hB1 hdds2 hBw2
    refine wpAny_ready (rs := [4]) (by kernel_rfl) (by simp) ?_
    refine AllReady.cons rfl (fun K hK => ?_) AllReady.nil
    simp only [List.getElem_toArray, List.getElem_cons_succ, List.getElem_cons_zero]
    refine step_of (by rfl) (wp_store_row 23 (.tmp 2) (.tmp 12) rfl bA ds1 rfl rfl 23 cs HA2.out HI1.out HM1.out HD1.out.cells (hK _ _ ?_))
    clear hK K
    try simp only [List.getElem_toArray, List.getElem_cons_succ, List.getElem_cons_zero, Act.put, List.setIfInBounds_toArray, List.set_cons_zero, List.set_cons_succ]
    refine wpAny_ready (rs := [5]) (by kernel_rfl) (by simp) ?_
    refine AllReady.cons rfl (fun K hK => ?_) AllReady.nil
    simp only [List.getElem_toArray, List.getElem_cons_succ, List.getElem_cons_zero]
    refine step_of (by rfl) (wp_store_row 23 (.tmp 3) (.tmp 14) rfl bB ds2 rfl rfl 23 es ((setRow_other _ _ _ _ HNE.out).trans HB2.out) HI2.out HM2.out HD2.out.cells (hK _ _ ?_))
    clear hK K
    try simp only [List.getElem_toArray, List.getElem_cons_succ, List.getElem_cons_zero, Act.put, List.setIfInBounds_toArray, List.set_cons_zero, List.set_cons_succ]
    refine wpAny_done (by kernel_rfl) ?_ _
    change Exit.then _ _ Exit.normal _ _
    have HRA := Lib.hid (row_of ((setRow_other _ _ _ ds2 (fun e => HNE.out e.symm)).trans (setRow_heap _ _ _ ds1 _ _ HA2.out)) HD1.out)
    have HRB := Lib.hid (row_of (setRow_heap _ _ _ ds2 _ _ ((setRow_other w2 bA bB ds1 HNE.out).trans HB2.out)) HD2.out)
    have HBF := Lib.hid (below_setRow (below_setRow ((HBW.out).trans (HB12.out.mono HSW.out)) HLA.out ds1) HLB.out ds2)
    have HSF : Hid (wA.heap.size ≤ ((w2.setRow bA ds1).setRow bB ds2).heap.size) := Lib.hid (by have := HB12.out.size; simpa using this)
    have HZF := Lib.hid ((setRow_other (w2.setRow bA ds1) bB bZ ds2 HNZ2.out).trans ((setRow_other w2 bA bZ ds1 HNZ1.out).trans ((HB12.out.block _ HSZ.out).trans HZA.out)))
    generalize (w2.setRow bA ds1).setRow bB ds2 = wF at *
    clear HA2 HB2 HM1 HM2 HI1 HI2 HB12
    have HB0 := Lib.hid HBF.out
    go_wp2_with fail
    refine (powers_any _).mono ?_
    rintro e' w3 ⟨zs, rfl, hZs, hB⟩
    have hs3 : wF.heap.size + 1 ≤ w3.heap.size := by have := hB.size; simpa using this
    have e5 := heap_alloc_last wF (.cells Z 23)
    have HRC := Lib.hid (row_of ((hB.block wF.heap.size (by simp)).trans e5) (partx_zero HZ.out (tim (redp p) (redp q))))
    have HB3 := Lib.hid ((HB0.out.alloc HB0.out.size (.cells Z 23)).trans (hB.mono (by have := HB0.out.size; simp; omega)))
    have hlA := HRA.out.lt; have hlB := HRB.out.lt
    have hlZ : bZ < wF.heap.size := by have := HSZ.out; have := HSF.out; omega
    have HRA3 := Lib.hid ((HRA.out.alloc (.cells Z 23)).of_block (hB.block bA (by simp; omega)))
    have HRB3 := Lib.hid ((HRB.out.alloc (.cells Z 23)).of_block (hB.block bB (by simp; omega)))
    have HZ3 := Lib.hid ((hB.block bZ (by simp; omega)).trans ((Below.heap_alloc wF (.cells Z 23) bZ hlZ).trans HZF.out))
    have HZs := Lib.hid hZs
    have hLC : w.heap.size ≤ wF.heap.size := HB0.out.size
    obtain ⟨bC, hbC⟩ : ∃ b, wF.heap.size = b := ⟨_, rfl⟩
    rw [hbC] at HRC hlA hlB hlZ hLC
    rw [hbC]
    clear hB hZs e5 HRA HRB HZF HBF HB0 hs3 hbC HA HB HZA HBW HSA HSB HSZ HSW HSF HD1 HD2 hz
    go_wp2
    go_loopw [16] (fun i W => ∃ k : Nat, k ≤ 128 ∧ i = .int .i64 k ∧ Hid (W.rowIs bC 23 256 (ints (partx (tim (redp p) (redp q)) (2 * k)))) ∧ Hid (W.rowIs bA 23 256 (ints (up (redp p)))) ∧ Hid (W.rowIs bB 23 256 (ints (up (redp q)))) ∧ Hid (W.heap[bZ]? = some (.cells Z 23 (0, 0))) ∧ Hid (Below w.heap.size w W)) (fun i _ => 128 - (intOf i).toNat)
    case atStart => exact ⟨0, by omega, rfl, HRC, HRA3, HRB3, HZ3, HB3⟩
    case round =>
      clear HRC HRA3 HRB3 HZ3 HB3
      obtain ⟨k, hk, rfl, HRC, HRA, HRB, HZ3, HB3⟩ := hrel
      by_cases hlt : k < 128
      · have hdk : decide ((k : Int) < 128) = true := decide_eq_true (by omega)
        have hix := run_index_one (P := Try.prog) 34 3 128 _ zs .i64 k _ Try.underlying34 Try.underlying3 rfl (by kernel_rfl) hlt (HZs.out.2 k hlt)
        have m1 := mul_bd (zv k) (zv k)
        have g1 := nv_lo (zv k * zv k); have g2 := nv_hi (zv k * zv k)
        go_wp2_with fail
        refine (number_is _ (zv k * zv k) _ (red_mul_nv _ _) (by omega) (by omega)).mono ?_
        rintro e' w' ⟨rfl, rfl⟩
        go_wp2_with fail
        refine (number_is _ (gam k) _ (red_gam k) (by omega) (by omega)).mono ?_
        rintro e' w' ⟨rfl, rfl⟩
        have c0 := HRA.out.cell (i := 2 * k) (by omega)
        have c1 := HRA.out.cell (i := 2 * k + 1) (by omega)
        have d0 := HRB.out.cell (i := 2 * k) (by omega)
        have d1 := HRB.out.cell (i := 2 * k + 1) (by omega)
        unfold ints at c0 c1 d0 d1
        rw [up_at] at c0 c1 d0 d1
        have fr := HRC.out.frozen (2 * k)
        have fc := HRC.out.cell (i := 2 * k) (by omega)
        unfold ints at fc
        have HX : Hid (tim (redp p) (redp q) (2 * k) = redp p (2 * k) * redp q (2 * k) + gam k * (redp p (2 * k + 1) * redp q (2 * k + 1))) := Lib.hid (by rw [tim_even, Nat.mod_eq_of_lt hlt])
        have HY : Hid (tim (redp p) (redp q) (2 * k + 1) = redp p (2 * k) * redp q (2 * k + 1) + redp p (2 * k + 1) * redp q (2 * k)) := Lib.hid (tim_odd _ _ _)
        obtain ⟨x0, hx0⟩ : ∃ x, redp p (2 * k) = x := ⟨_, rfl⟩
        obtain ⟨x1, hx1⟩ : ∃ x, redp p (2 * k + 1) = x := ⟨_, rfl⟩
        obtain ⟨y0, hy0⟩ : ∃ x, redp q (2 * k) = x := ⟨_, rfl⟩
        obtain ⟨y1, hy1⟩ : ∃ x, redp q (2 * k + 1) = x := ⟨_, rfl⟩
        obtain ⟨g, hg⟩ : ∃ x, gam k = x := ⟨_, rfl⟩
        rw [hx0] at c0; rw [hx1] at c1; rw [hy0] at d0; rw [hy1] at d1
        rw [hx0, hx1, hy0, hy1, hg] at HX; rw [hx0, hx1, hy0, hy1] at HY
        rw [hg]
        have HX0 := Lib.hid hx0; have HX1 := Lib.hid hx1; have HY0 := Lib.hid hy0; have HY1 := Lib.hid hy1
        clear hx0 hx1 hy0 hy1 hg hix m1 g1 g2
        have b1 := mul_bd x0 y0; have b2 := mul_bd x1 y1; have b3 := mul_bd g (x1 * y1); have b4 := mul_bd x0 y1; have b5 := mul_bd x1 y0
        have i0 : (0 : Int) ≤ 2 * (k : Int) := by omega
        have i1 : 2 * (k : Int) < 256 := by omega
        have i2 : (0 : Int) ≤ 2 * (k : Int) + 1 := by omega
        have i3 : 2 * (k : Int) + 1 < 256 := by omega
        have i4 : (2 * (k : Int)).toNat = 2 * k := by omega
        have i5 : (2 * (k : Int) + 1).toNat = 2 * k + 1 := by omega
        have q1 : IntKind.i64.wrap (nv x0 * nv y0) = nv x0 * nv y0 := IntWalk.i64_in _ (by omega)
        have q2 : IntKind.i64.wrap (nv x1 * nv y1) = nv x1 * nv y1 := IntWalk.i64_in _ (by omega)
        have q3 : IntKind.i64.wrap (nv g * nv (x1 * y1)) = nv g * nv (x1 * y1) := IntWalk.i64_in _ (by omega)
        have q4 : IntKind.i64.wrap (nv x0 * nv y0 + nv g * nv (x1 * y1)) = nv x0 * nv y0 + nv g * nv (x1 * y1) := IntWalk.i64_in _ (by omega)
        have q5 : IntKind.i64.wrap (nv x0 * nv y1) = nv x0 * nv y1 := IntWalk.i64_in _ (by omega)
        have q6 : IntKind.i64.wrap (nv x1 * nv y0) = nv x1 * nv y0 := IntWalk.i64_in _ (by omega)
        have q7 : IntKind.i64.wrap (nv x0 * nv y1 + nv x1 * nv y0) = nv x0 * nv y1 + nv x1 * nv y0 := IntWalk.i64_in _ (by omega)
        go_wp2
        refine wp_region_still_tail 21 (by kernel_rfl) (by kernel_rfl) ?_
        simp only [List.take_succ_cons, List.take_zero, List.drop_succ_cons, List.drop_zero]
        repeat still_step
        still_call (number_same _ (x1 * y1) _ (red_mul_nv _ _) (by omega) (by omega))
        repeat still_step
        still_call (number_same _ (x0 * y0 + g * (x1 * y1)) _ (red_even _ _ _ _ _) (by omega) (by omega))
        repeat still_step
        refine wpStill_nil ?_
        change wpList _ _ _ _ _ wr.drew
        go_wp2
        have HRC2 := Lib.hid (partx_put HX.out HRC.out)
        have HRA2 := Lib.hid (HRA.out.setOther (a := ⟨bC, 2 * k, none⟩) (show bA ≠ bC by omega) (.int .i64 (nv (x0 * y0 + g * (x1 * y1)))))
        have HRB2 := Lib.hid (HRB.out.setOther (a := ⟨bC, 2 * k, none⟩) (show bB ≠ bC by omega) (.int .i64 (nv (x0 * y0 + g * (x1 * y1)))))
        have HZ4 := Lib.hid ((Below.heap_setCell wr ⟨bC, 2 * k, none⟩ (.int .i64 (nv (x0 * y0 + g * (x1 * y1)))) bZ (show bZ ≠ bC by omega)).trans HZ3.out)
        have HB4 := Lib.hid (HB3.out.setCell (p := ⟨bC, 2 * k, none⟩) hLC (.int .i64 (nv (x0 * y0 + g * (x1 * y1)))))
        clear c0 c1 d0 d1 fr fc HRC HRA HRB HZ3 HB3
        change Code.wp _ _ _ _ (wr.setCell ⟨bC, 2 * k, none⟩ (.int .i64 (nv (x0 * y0 + g * (x1 * y1))))).drew
        generalize wr.setCell ⟨bC, 2 * k, none⟩ (.int .i64 (nv (x0 * y0 + g * (x1 * y1)))) = wN at *
        have c0 : wN.drew.cell? ⟨bA, 2 * k, none⟩ = some (.int .i64 (nv x0)) := by have := HRA2.out.cell (i := 2 * k) (by omega); unfold ints at this; rw [up_at, HX0.out] at this; exact this
        have c1 : wN.drew.cell? ⟨bA, 2 * k + 1, none⟩ = some (.int .i64 (nv x1)) := by have := HRA2.out.cell (i := 2 * k + 1) (by omega); unfold ints at this; rw [up_at, HX1.out] at this; exact this
        have d0 : wN.drew.cell? ⟨bB, 2 * k, none⟩ = some (.int .i64 (nv y0)) := by have := HRB2.out.cell (i := 2 * k) (by omega); unfold ints at this; rw [up_at, HY0.out] at this; exact this
        have d1 : wN.drew.cell? ⟨bB, 2 * k + 1, none⟩ = some (.int .i64 (nv y1)) := by have := HRB2.out.cell (i := 2 * k + 1) (by omega); unfold ints at this; rw [up_at, HY1.out] at this; exact this
        have fr : wN.drew.frozen? ⟨bC, 2 * k + 1, none⟩ = false := HRC2.out.frozen (2 * k + 1)
        have fc : wN.drew.cell? ⟨bC, 2 * k + 1, none⟩ = some (.int .i64 (partx (tim (redp p) (redp q)) (2 * k + 1) (2 * k + 1))) := HRC2.out.cell (i := 2 * k + 1) (by omega)
        obtain ⟨wM, hwM⟩ : ∃ wM, wN.drew = wM := ⟨_, rfl⟩
        rw [hwM] at c0 c1 d0 d1 fr fc
        rw [hwM]
        have HRC2 : Hid (wM.rowIs bC 23 256 (ints (partx (tim (redp p) (redp q)) (2 * k + 1)))) := Lib.hid (hwM ▸ HRC2.out)
        have HRA2 : Hid (wM.rowIs bA 23 256 (ints (up (redp p)))) := Lib.hid (hwM ▸ HRA2.out)
        have HRB2 : Hid (wM.rowIs bB 23 256 (ints (up (redp q)))) := Lib.hid (hwM ▸ HRB2.out)
        have HZ4 : Hid (wM.heap[bZ]? = some (.cells Z 23 (0, 0))) := Lib.hid (hwM ▸ HZ4.out)
        have HB4 : Hid (Below w.heap.size w wM) := Lib.hid (hwM ▸ HB4.out.drew)
        clear hwM
        refine wp_region_still_tail 18 (by kernel_rfl) (by kernel_rfl) ?_
        simp only [List.take_succ_cons, List.take_zero, List.drop_succ_cons, List.drop_zero]
        repeat still_step
        still_call (number_same _ (x0 * y1 + x1 * y0) _ (red_odd _ _ _ _) (by omega) (by omega))
        repeat still_step
        refine wpStill_nil ?_
        change wpList _ _ _ _ _ wM.drew
        go_wp2
        go_roundw
        case rel => exact ⟨k + 1, by omega, by go_num, Lib.hid (by have := partx_put HY.out HRC2.out; rw [show 2 * k + 1 + 1 = 2 * (k + 1) by omega] at this; exact this.drew), Lib.hid (HRA2.out.setOther (a := ⟨bC, 2 * k + 1, none⟩) (show bA ≠ bC by omega) _).drew, Lib.hid (HRB2.out.setOther (a := ⟨bC, 2 * k + 1, none⟩) (show bB ≠ bC by omega) _).drew, Lib.hid ((Below.heap_setCell wM ⟨bC, 2 * k + 1, none⟩ _ bZ (show bZ ≠ bC by omega)).trans HZ4.out), Lib.hid (HB4.out.setCell (p := ⟨bC, 2 * k + 1, none⟩) hLC _).drew⟩
        case measure => simp [intOf]; omega
      · obtain rfl : k = 128 := by omega
        obtain ⟨ds, hds, hD⟩ := of_row HRC.out
        have H1 := Lib.hid hds; have H2 := Lib.hid (partx_all hD); have H3 := Lib.hid (poly_sized hD); have H4 := Lib.hid (show Z.size = ds.size by rw [HZ.out.1, hD.1]); clear hds hD
        go_wp2_with (first | (refine wpList_load_row rfl 23 (.tmp 5) rfl bC rfl 23 ds (0, 0) _ H1.out Try.underlying23 rfl H3.out ?_) | (refine wpList_store_row rfl 23 (.tmp 4) (.tmp 71) rfl bZ ds rfl rfl 23 Z HZ3.out H3.out H4.out H2.out.cells ?_))
        refine bodyPost_ret (v := .agg ds) (results_cell_row (p := 4) (ty := 23) (by kernel_rfl) _ _ bZ 23 ds (0, 0) _ rfl (setRow_heap _ _ _ _ _ _ HZ3.out) Try.underlying23 rfl H3.out) rfl ⟨ds, rfl, H2.out, below_setRow HB3.out HLZ.out _⟩
end Go.Proofs.Ytjaaldkkfdfkcaa.Sm
