/- Walks: Add, Sub. Written by tools/mk_smadd.py. -/
import Derived.Test.YtjaaldkkfdfkcaaSmWalkD
namespace Go.Proofs.Ytjaaldkkfdfkcaa.Sm
open Go.RowKit
set_option linter.all false

theorem step_of {P : Program} {ops : Array Oper} {o : Oper} {a : Act} {w : World} {K : Act → World → Prop} {Q : Exit → Act → World → Prop} {E : Prop} {ts : Array Value} (hw : Region.wanted o (yielded ops ts) = true)
    (h : Oper.wp P o a w K Q) : if Region.wanted o (yielded ops ts) = true then Oper.wp P o a w K Q else E := by rw [if_pos hw]; exact h
theorem below_of_drew {w w' : World} (h : Below w.drew.heap.size w.drew w') : Below w.heap.size w w' := ⟨h.os, h.tape, h.output, h.size, h.block⟩
/-- a region that is shown not to panic; the post laid open, so that its limb at a panic is seen at once -/
theorem region_calm {P : Program} {id : Nat} {ops : Array Oper} {b : Bool} {Q : Exit → Act → World → Prop} {a : Act} {w : World}
    (h : (Code.region id ops b).wp P (fun e a w => match e with | .panic _ => False | e => Q e a w) a w) : (Code.region id ops b).wp P Q a w :=
  Code.wp_mono (fun e a w h => by cases e <;> first | exact h | exact (h : False).elim) h

set_option maxHeartbeats 2000000 in
set_option maxRecDepth 100000 in
theorem add_any (cs es : Array Value) (p q : Nat → Int) (w : World) (hP : IsP cs p) (hQ : IsP es q) (hFp : Fits p) (hFq : Fits q) :
    Calls Try.prog 12 #[.agg cs, .agg es] w fun e w' => ∃ ds, e = .returned (.agg ds) ∧ IsP ds (up (pl (redp p) (redp q))) ∧ Below w.heap.size w w' := by
  have hmf : ∀ (fn : Fn) (first cap : Array Value) (w : World), (Instr.makeFunc fn first cap).run Try.prog w = .ok (.func fn first cap) w := fun _ _ _ _ => rfl
  have HP := Lib.hid hP; have HQ := Lib.hid hQ; have HFp := Lib.hid hFp; have HFq := Lib.hid hFq; clear hP hQ hFp hFq
  obtain ⟨Z, hz, hZ⟩ := zero_poly
  have HZ := Lib.hid hZ; clear hZ
  go_enter Try.func12, Try.ntmps12
  go_wp2
  have e1 : (w.alloc (.cells cs 23)).heap.size = w.heap.size + 1 := by simp
  have e2 : ((w.alloc (.cells cs 23)).alloc (.cells es 23)).heap.size = w.heap.size + 2 := by simp
  have HA0 := Lib.hid (heap_alloc_last w (.cells cs 23))
  have HB0 := Lib.hid (heap_alloc_last (w.alloc (.cells cs 23)) (.cells es 23))
  have HZ0 := Lib.hid (heap_alloc_last ((w.alloc (.cells cs 23)).alloc (.cells es 23)) (.cells Z 23))
  have HBW : Hid (Below w.heap.size w (((w.alloc (.cells cs 23)).alloc (.cells es 23)).alloc (.cells Z 23))) := Lib.hid ((((Below.refl _ _).alloc (Nat.le_refl _) _).alloc (by simp) _).alloc (by simp; omega) _)
  have HA : Hid ((((w.alloc (.cells cs 23)).alloc (.cells es 23)).alloc (.cells Z 23)).heap[w.heap.size]? = some (.cells cs 23 (0, 0))) := Lib.hid ((Below.heap_alloc _ _ _ (by rw [e2]; omega)).trans ((Below.heap_alloc _ _ _ (by rw [e1]; omega)).trans HA0.out))
  have HB : Hid ((((w.alloc (.cells cs 23)).alloc (.cells es 23)).alloc (.cells Z 23)).heap[w.heap.size + 1]? = some (.cells es 23 (0, 0))) := Lib.hid ((Below.heap_alloc _ _ _ (by rw [e2]; omega)).trans (by rw [← e1]; exact HB0.out))
  have HZA : Hid ((((w.alloc (.cells cs 23)).alloc (.cells es 23)).alloc (.cells Z 23)).heap[w.heap.size + 2]? = some (.cells Z 23 (0, 0))) := Lib.hid (by rw [← e2]; exact HZ0.out)
  have e3 : (((w.alloc (.cells cs 23)).alloc (.cells es 23)).alloc (.cells Z 23)).heap.size = w.heap.size + 3 := by simp
  clear HA0 HB0 HZ0 e1 e2
  change Code.wp _ _ _ _ (((w.alloc (.cells cs 23)).alloc (.cells es 23)).alloc (.cells Z 23))
  generalize ((w.alloc (.cells cs 23)).alloc (.cells es 23)).alloc (.cells Z 23) = wA at *
  obtain ⟨bA, hbA⟩ : ∃ b, w.heap.size = b := ⟨_, rfl⟩
  obtain ⟨bB, hbB⟩ : ∃ b, w.heap.size + 1 = b := ⟨_, rfl⟩
  obtain ⟨bZ, hbZ⟩ : ∃ b, w.heap.size + 2 = b := ⟨_, rfl⟩
  have HSA : Hid (bA < wA.heap.size) := Lib.hid (by omega)
  have HSB : Hid (bB < wA.heap.size) := Lib.hid (by omega)
  have HSZ : Hid (bZ < wA.heap.size) := Lib.hid (by omega)
  have HSW : Hid (w.heap.size ≤ wA.heap.size) := Lib.hid (by omega)
  have HLA : Hid (w.heap.size ≤ bA) := Lib.hid (by omega)
  have HLB : Hid (w.heap.size ≤ bB) := Lib.hid (by omega)
  have HLZ : Hid (w.heap.size ≤ bZ) := Lib.hid (by omega)
  have HNE : Hid (bB ≠ bA) := Lib.hid (by omega)
  have HNZ1 : Hid (bZ ≠ bA) := Lib.hid (by omega)
  have HNZ2 : Hid (bZ ≠ bB) := Lib.hid (by omega)
  rw [hbA] at HA; rw [hbB] at HB; rw [hbZ] at HZA
  rw [hbZ, hbB, hbA]
  clear hbA hbB hbZ e3
  refine region_calm ?_
  refine wp_region_any (by kernel_rfl) ?_
  change wpAny _ _ _ _ _ _ _ (World.drew _)
  refine have T2 : ∀ (ds1 : Array Value) (w1 : World), IsP ds1 (up (redp p)) → Below wA.heap.size wA w1 → wpAny ?tP ?tm ?to ?tQ 3 ?tl ((?ta : Array Value → Act) ds1) w1 := ?t2; ?main
  case main =>
    refine have T1 : wpAny ?tP1 ?tm1 ?to1 ?tQ1 4 ?tl1 ?ta1 wA.drew := ?t1; ?main1
    case main1 =>
      refine wpAny_ready (rs := [0, 2]) (by kernel_rfl) (by simp) ?_
      refine AllReady.cons rfl (fun K hK => ?_) (AllReady.cons rfl (fun K hK => ?_) AllReady.nil)
      · simp only [List.getElem_toArray, List.getElem_cons_succ, List.getElem_cons_zero]
        refine step_of (by rfl) (wp_load_row 23 (.tmp 2) rfl bA rfl 23 _ (0, 0) _ (HA.out : wA.drew.heap[_]? = _) Try.underlying23 rfl (poly_sized HP.out) (hK _ _ ?_))
        clear hK K
        try simp only [List.getElem_toArray, List.getElem_cons_succ, List.getElem_cons_zero, Act.put, List.setIfInBounds_toArray, List.set_cons_zero, List.set_cons_succ]
        refine wpAny_ready (rs := [1, 2]) (by kernel_rfl) (by simp) ?_
        refine AllReady.cons rfl (fun K hK => ?_) (AllReady.cons rfl (fun K hK => ?_) AllReady.nil)
        · simp only [List.getElem_toArray, List.getElem_cons_succ, List.getElem_cons_zero]
          go_simp
          refine (mod_any _ _ _ HP.out HFp.out).mono ?_
          rintro e' w1 ⟨ds1, rfl, hdds1, hBw1⟩
          try replace hBw1 := below_of_drew hBw1
          refine hK _ _ ?_
          clear hK K
          try simp only [List.getElem_toArray, List.getElem_cons_succ, List.getElem_cons_zero, Act.put, List.setIfInBounds_toArray, List.set_cons_zero, List.set_cons_succ]
          refine wpAny_ready (rs := [2]) (by kernel_rfl) (by simp) ?_
          refine AllReady.cons rfl (fun K hK => ?_) AllReady.nil
          simp only [List.getElem_toArray, List.getElem_cons_succ, List.getElem_cons_zero]
          refine step_of (by rfl) (wp_load_row 23 (.tmp 3) rfl bB rfl 23 _ (0, 0) _ ((hBw1.block _ HSB.out).trans (HB.out : wA.drew.heap[_]? = _)) Try.underlying23 rfl (poly_sized HQ.out) (hK _ _ ?_))
          clear hK K
          try simp only [List.getElem_toArray, List.getElem_cons_succ, List.getElem_cons_zero, Act.put, List.setIfInBounds_toArray, List.set_cons_zero, List.set_cons_succ]
          exact T2 ds1 w1 hdds1 hBw1
        · simp only [List.getElem_toArray, List.getElem_cons_succ, List.getElem_cons_zero]
          refine step_of (by rfl) (wp_load_row 23 (.tmp 3) rfl bB rfl 23 _ (0, 0) _ (HB.out : wA.drew.heap[_]? = _) Try.underlying23 rfl (poly_sized HQ.out) (hK _ _ ?_))
          clear hK K
          try simp only [List.getElem_toArray, List.getElem_cons_succ, List.getElem_cons_zero, Act.put, List.setIfInBounds_toArray, List.set_cons_zero, List.set_cons_succ]
          exact T1
      · simp only [List.getElem_toArray, List.getElem_cons_succ, List.getElem_cons_zero]
        refine step_of (by rfl) (wp_load_row 23 (.tmp 3) rfl bB rfl 23 _ (0, 0) _ (HB.out : wA.drew.heap[_]? = _) Try.underlying23 rfl (poly_sized HQ.out) (hK _ _ ?_))
        clear hK K
        try simp only [List.getElem_toArray, List.getElem_cons_succ, List.getElem_cons_zero, Act.put, List.setIfInBounds_toArray, List.set_cons_zero, List.set_cons_succ]
        refine wpAny_ready (rs := [0]) (by kernel_rfl) (by simp) ?_
        refine AllReady.cons rfl (fun K hK => ?_) AllReady.nil
        simp only [List.getElem_toArray, List.getElem_cons_succ, List.getElem_cons_zero]
        refine step_of (by rfl) (wp_load_row 23 (.tmp 2) rfl bA rfl 23 _ (0, 0) _ (HA.out : wA.drew.heap[_]? = _) Try.underlying23 rfl (poly_sized HP.out) (hK _ _ ?_))
        clear hK K
        try simp only [List.getElem_toArray, List.getElem_cons_succ, List.getElem_cons_zero, Act.put, List.setIfInBounds_toArray, List.set_cons_zero, List.set_cons_succ]
        exact T1
    case t1 =>
      refine wpAny_ready (rs := [1]) (by kernel_rfl) (by simp) ?_
      refine AllReady.cons rfl (fun K hK => ?_) AllReady.nil
      simp only [List.getElem_toArray, List.getElem_cons_succ, List.getElem_cons_zero]
      go_simp
      refine (mod_any _ _ _ HP.out HFp.out).mono ?_
      rintro e' w1 ⟨ds1, rfl, hdds1, hBw1⟩
      try replace hBw1 := below_of_drew hBw1
      refine hK _ _ ?_
      clear hK K
      try simp only [List.getElem_toArray, List.getElem_cons_succ, List.getElem_cons_zero, Act.put, List.setIfInBounds_toArray, List.set_cons_zero, List.set_cons_succ]
      exact T2 ds1 w1 hdds1 hBw1
  case t2 =>
    intro ds1 w1 hds1 hB1
    refine wpAny_ready (rs := [3]) (by kernel_rfl) (by simp) ?_
    refine AllReady.cons rfl (fun K hK => ?_) AllReady.nil
    simp only [List.getElem_toArray, List.getElem_cons_succ, List.getElem_cons_zero]
    go_simp
    refine (mod_any _ _ _ HQ.out HFq.out).mono ?_
    rintro e' w2 ⟨ds2, rfl, hdds2, hBw2⟩
    try replace hBw2 := below_of_drew hBw2
    refine hK _ _ ?_
    clear hK K
    try simp only [List.getElem_toArray, List.getElem_cons_succ, List.getElem_cons_zero, Act.put, List.setIfInBounds_toArray, List.set_cons_zero, List.set_cons_succ]
    have HB12 := Lib.hid (hB1.trans (hBw2.mono hB1.size))
    have HD1 := Lib.hid hds1; have HD2 := Lib.hid hdds2
    have HI1 := Lib.hid (poly_sized hds1); have HI2 := Lib.hid (poly_sized hdds2)
    have HM1 := Lib.hid (show cs.size = ds1.size by rw [HP.out.1, hds1.1])
    have HM2 := Lib.hid (show es.size = ds2.size by rw [HQ.out.1, hdds2.1])
    have HA2 := Lib.hid ((HB12.out.block _ HSA.out).trans HA.out)
    have HB2 := Lib.hid ((HB12.out.block _ HSB.out).trans HB.out)
    clear hds1 hB1 hdds2 hBw2
    refine wpAny_ready (rs := [4]) (by kernel_rfl) (by simp) ?_
    refine AllReady.cons rfl (fun K hK => ?_) AllReady.nil
    simp only [List.getElem_toArray, List.getElem_cons_succ, List.getElem_cons_zero]
    refine step_of (by rfl) (wp_store_row 23 (.tmp 2) (.tmp 6) rfl bA ds1 rfl rfl 23 cs HA2.out HI1.out HM1.out HD1.out.cells (hK _ _ ?_))
    clear hK K
    try simp only [List.getElem_toArray, List.getElem_cons_succ, List.getElem_cons_zero, Act.put, List.setIfInBounds_toArray, List.set_cons_zero, List.set_cons_succ]
    refine wpAny_ready (rs := [5]) (by kernel_rfl) (by simp) ?_
    refine AllReady.cons rfl (fun K hK => ?_) AllReady.nil
    simp only [List.getElem_toArray, List.getElem_cons_succ, List.getElem_cons_zero]
    refine step_of (by rfl) (wp_store_row 23 (.tmp 3) (.tmp 8) rfl bB ds2 rfl rfl 23 es ((setRow_other _ _ _ _ HNE.out).trans HB2.out) HI2.out HM2.out HD2.out.cells (hK _ _ ?_))
    clear hK K
    try simp only [List.getElem_toArray, List.getElem_cons_succ, List.getElem_cons_zero, Act.put, List.setIfInBounds_toArray, List.set_cons_zero, List.set_cons_succ]
    refine wpAny_done (by kernel_rfl) ?_ _
    change Exit.then _ _ Exit.normal _ _
    have HRA := Lib.hid (row_of ((setRow_other _ _ _ ds2 (fun e => HNE.out e.symm)).trans (setRow_heap _ _ _ ds1 _ _ HA2.out)) HD1.out)
    have HRB := Lib.hid (row_of (setRow_heap _ _ _ ds2 _ _ ((setRow_other w2 bA bB ds1 HNE.out).trans HB2.out)) HD2.out)
    have HBF := Lib.hid (below_setRow (below_setRow ((HBW.out).trans (HB12.out.mono HSW.out)) HLA.out ds1) HLB.out ds2)
    have HSF : Hid (wA.heap.size ≤ ((w2.setRow bA ds1).setRow bB ds2).heap.size) := Lib.hid (by have := HB12.out.size; simpa using this)
    have HZF := Lib.hid ((setRow_other (w2.setRow bA ds1) bB bZ ds2 HNZ2.out).trans ((setRow_other w2 bA bZ ds1 HNZ1.out).trans ((HB12.out.block _ HSZ.out).trans HZA.out)))
    generalize (w2.setRow bA ds1).setRow bB ds2 = wF at *
    clear HA2 HB2 HM1 HM2 HI1 HI2 HB12
    go_wp2_with fail
    refine (each_add1 ⟨bA, 0, none⟩ ⟨bB, 0, none⟩ _ (pl (redp p) (redp q)) wF (fun i hi => ⟨by have := nv_lo (redp p i); have := nv_hi (redp p i); have := nv_lo (redp q i); have := nv_hi (redp q i); omega, by have := nv_lo (redp p i); have := nv_hi (redp p i); have := nv_lo (redp q i); have := nv_hi (redp q i); omega, red_add_nv _ _⟩)
      (fun W i hi hB => add1_any bA bB (redp p) (redp q) i W hi (below_at hB HRA.out HRA.out.lt) (below_at hB HRB.out HRB.out.lt))).mono ?_
    rintro e w3 ⟨ds, rfl, hD, hB⟩
    have HQ3 := Lib.hid ((hB.block _ (by have := HSZ.out; have := HSF.out; omega)).trans HZF.out)
    have HB3 := Lib.hid (HBF.out.trans (hB.mono HBF.out.size))
    have hi := poly_sized hD
    have hzm : Z.size = ds.size := by rw [HZ.out.1, hD.1]
    have HD := Lib.hid hD; have HI := Lib.hid hi; have HM := Lib.hid hzm; clear hD hB hi hzm
    go_wp2_with (refine wpList_store_row rfl 23 (.tmp 4) (.tmp 10) rfl bZ ds rfl rfl 23 Z HQ3.out HI.out HM.out HD.out.cells ?_)
    refine bodyPost_ret (v := .agg ds) (results_cell_row (p := 4) (ty := 23) (by kernel_rfl) _ _ bZ 23 ds (0, 0) _ rfl (setRow_heap _ _ _ _ _ _ HQ3.out) Try.underlying23 rfl HI.out) rfl ⟨ds, rfl, HD.out, below_setRow HB3.out HLZ.out _⟩

set_option maxHeartbeats 2000000 in
set_option maxRecDepth 100000 in
theorem sub_any (cs es : Array Value) (p q : Nat → Int) (w : World) (hP : IsP cs p) (hQ : IsP es q) (hFp : Fits p) (hFq : Fits q) :
    Calls Try.prog 14 #[.agg cs, .agg es] w fun e w' => ∃ ds, e = .returned (.agg ds) ∧ IsP ds (up (mi (redp p) (redp q))) ∧ Below w.heap.size w w' := by
  have hmf : ∀ (fn : Fn) (first cap : Array Value) (w : World), (Instr.makeFunc fn first cap).run Try.prog w = .ok (.func fn first cap) w := fun _ _ _ _ => rfl
  have HP := Lib.hid hP; have HQ := Lib.hid hQ; have HFp := Lib.hid hFp; have HFq := Lib.hid hFq; clear hP hQ hFp hFq
  obtain ⟨Z, hz, hZ⟩ := zero_poly
  have HZ := Lib.hid hZ; clear hZ
  go_enter Try.func14, Try.ntmps14
  go_wp2
  have e1 : (w.alloc (.cells cs 23)).heap.size = w.heap.size + 1 := by simp
  have e2 : ((w.alloc (.cells cs 23)).alloc (.cells es 23)).heap.size = w.heap.size + 2 := by simp
  have HA0 := Lib.hid (heap_alloc_last w (.cells cs 23))
  have HB0 := Lib.hid (heap_alloc_last (w.alloc (.cells cs 23)) (.cells es 23))
  have HZ0 := Lib.hid (heap_alloc_last ((w.alloc (.cells cs 23)).alloc (.cells es 23)) (.cells Z 23))
  have HBW : Hid (Below w.heap.size w (((w.alloc (.cells cs 23)).alloc (.cells es 23)).alloc (.cells Z 23))) := Lib.hid ((((Below.refl _ _).alloc (Nat.le_refl _) _).alloc (by simp) _).alloc (by simp; omega) _)
  have HA : Hid ((((w.alloc (.cells cs 23)).alloc (.cells es 23)).alloc (.cells Z 23)).heap[w.heap.size]? = some (.cells cs 23 (0, 0))) := Lib.hid ((Below.heap_alloc _ _ _ (by rw [e2]; omega)).trans ((Below.heap_alloc _ _ _ (by rw [e1]; omega)).trans HA0.out))
  have HB : Hid ((((w.alloc (.cells cs 23)).alloc (.cells es 23)).alloc (.cells Z 23)).heap[w.heap.size + 1]? = some (.cells es 23 (0, 0))) := Lib.hid ((Below.heap_alloc _ _ _ (by rw [e2]; omega)).trans (by rw [← e1]; exact HB0.out))
  have HZA : Hid ((((w.alloc (.cells cs 23)).alloc (.cells es 23)).alloc (.cells Z 23)).heap[w.heap.size + 2]? = some (.cells Z 23 (0, 0))) := Lib.hid (by rw [← e2]; exact HZ0.out)
  have e3 : (((w.alloc (.cells cs 23)).alloc (.cells es 23)).alloc (.cells Z 23)).heap.size = w.heap.size + 3 := by simp
  clear HA0 HB0 HZ0 e1 e2
  change Code.wp _ _ _ _ (((w.alloc (.cells cs 23)).alloc (.cells es 23)).alloc (.cells Z 23))
  generalize ((w.alloc (.cells cs 23)).alloc (.cells es 23)).alloc (.cells Z 23) = wA at *
  obtain ⟨bA, hbA⟩ : ∃ b, w.heap.size = b := ⟨_, rfl⟩
  obtain ⟨bB, hbB⟩ : ∃ b, w.heap.size + 1 = b := ⟨_, rfl⟩
  obtain ⟨bZ, hbZ⟩ : ∃ b, w.heap.size + 2 = b := ⟨_, rfl⟩
  have HSA : Hid (bA < wA.heap.size) := Lib.hid (by omega)
  have HSB : Hid (bB < wA.heap.size) := Lib.hid (by omega)
  have HSZ : Hid (bZ < wA.heap.size) := Lib.hid (by omega)
  have HSW : Hid (w.heap.size ≤ wA.heap.size) := Lib.hid (by omega)
  have HLA : Hid (w.heap.size ≤ bA) := Lib.hid (by omega)
  have HLB : Hid (w.heap.size ≤ bB) := Lib.hid (by omega)
  have HLZ : Hid (w.heap.size ≤ bZ) := Lib.hid (by omega)
  have HNE : Hid (bB ≠ bA) := Lib.hid (by omega)
  have HNZ1 : Hid (bZ ≠ bA) := Lib.hid (by omega)
  have HNZ2 : Hid (bZ ≠ bB) := Lib.hid (by omega)
  rw [hbA] at HA; rw [hbB] at HB; rw [hbZ] at HZA
  rw [hbZ, hbB, hbA]
  clear hbA hbB hbZ e3
  refine region_calm ?_
  refine wp_region_any (by kernel_rfl) ?_
  change wpAny _ _ _ _ _ _ _ (World.drew _)
  refine have T2 : ∀ (ds1 : Array Value) (w1 : World), IsP ds1 (up (redp p)) → Below wA.heap.size wA w1 → wpAny ?tP ?tm ?to ?tQ 3 ?tl ((?ta : Array Value → Act) ds1) w1 := ?t2; ?main
  case main =>
    refine have T1 : wpAny ?tP1 ?tm1 ?to1 ?tQ1 4 ?tl1 ?ta1 wA.drew := ?t1; ?main1
    case main1 =>
      refine wpAny_ready (rs := [0, 2]) (by kernel_rfl) (by simp) ?_
      refine AllReady.cons rfl (fun K hK => ?_) (AllReady.cons rfl (fun K hK => ?_) AllReady.nil)
      · simp only [List.getElem_toArray, List.getElem_cons_succ, List.getElem_cons_zero]
        refine step_of (by rfl) (wp_load_row 23 (.tmp 2) rfl bA rfl 23 _ (0, 0) _ (HA.out : wA.drew.heap[_]? = _) Try.underlying23 rfl (poly_sized HP.out) (hK _ _ ?_))
        clear hK K
        try simp only [List.getElem_toArray, List.getElem_cons_succ, List.getElem_cons_zero, Act.put, List.setIfInBounds_toArray, List.set_cons_zero, List.set_cons_succ]
        refine wpAny_ready (rs := [1, 2]) (by kernel_rfl) (by simp) ?_
        refine AllReady.cons rfl (fun K hK => ?_) (AllReady.cons rfl (fun K hK => ?_) AllReady.nil)
        · simp only [List.getElem_toArray, List.getElem_cons_succ, List.getElem_cons_zero]
          go_simp
          refine (mod_any _ _ _ HP.out HFp.out).mono ?_
          rintro e' w1 ⟨ds1, rfl, hdds1, hBw1⟩
          try replace hBw1 := below_of_drew hBw1
          refine hK _ _ ?_
          clear hK K
          try simp only [List.getElem_toArray, List.getElem_cons_succ, List.getElem_cons_zero, Act.put, List.setIfInBounds_toArray, List.set_cons_zero, List.set_cons_succ]
          refine wpAny_ready (rs := [2]) (by kernel_rfl) (by simp) ?_
          refine AllReady.cons rfl (fun K hK => ?_) AllReady.nil
          simp only [List.getElem_toArray, List.getElem_cons_succ, List.getElem_cons_zero]
          refine step_of (by rfl) (wp_load_row 23 (.tmp 3) rfl bB rfl 23 _ (0, 0) _ ((hBw1.block _ HSB.out).trans (HB.out : wA.drew.heap[_]? = _)) Try.underlying23 rfl (poly_sized HQ.out) (hK _ _ ?_))
          clear hK K
          try simp only [List.getElem_toArray, List.getElem_cons_succ, List.getElem_cons_zero, Act.put, List.setIfInBounds_toArray, List.set_cons_zero, List.set_cons_succ]
          exact T2 ds1 w1 hdds1 hBw1
        · simp only [List.getElem_toArray, List.getElem_cons_succ, List.getElem_cons_zero]
          refine step_of (by rfl) (wp_load_row 23 (.tmp 3) rfl bB rfl 23 _ (0, 0) _ (HB.out : wA.drew.heap[_]? = _) Try.underlying23 rfl (poly_sized HQ.out) (hK _ _ ?_))
          clear hK K
          try simp only [List.getElem_toArray, List.getElem_cons_succ, List.getElem_cons_zero, Act.put, List.setIfInBounds_toArray, List.set_cons_zero, List.set_cons_succ]
          exact T1
      · simp only [List.getElem_toArray, List.getElem_cons_succ, List.getElem_cons_zero]
        refine step_of (by rfl) (wp_load_row 23 (.tmp 3) rfl bB rfl 23 _ (0, 0) _ (HB.out : wA.drew.heap[_]? = _) Try.underlying23 rfl (poly_sized HQ.out) (hK _ _ ?_))
        clear hK K
        try simp only [List.getElem_toArray, List.getElem_cons_succ, List.getElem_cons_zero, Act.put, List.setIfInBounds_toArray, List.set_cons_zero, List.set_cons_succ]
        refine wpAny_ready (rs := [0]) (by kernel_rfl) (by simp) ?_
        refine AllReady.cons rfl (fun K hK => ?_) AllReady.nil
        simp only [List.getElem_toArray, List.getElem_cons_succ, List.getElem_cons_zero]
        refine step_of (by rfl) (wp_load_row 23 (.tmp 2) rfl bA rfl 23 _ (0, 0) _ (HA.out : wA.drew.heap[_]? = _) Try.underlying23 rfl (poly_sized HP.out) (hK _ _ ?_))
        clear hK K
        try simp only [List.getElem_toArray, List.getElem_cons_succ, List.getElem_cons_zero, Act.put, List.setIfInBounds_toArray, List.set_cons_zero, List.set_cons_succ]
        exact T1
    case t1 =>
      refine wpAny_ready (rs := [1]) (by kernel_rfl) (by simp) ?_
      refine AllReady.cons rfl (fun K hK => ?_) AllReady.nil
      simp only [List.getElem_toArray, List.getElem_cons_succ, List.getElem_cons_zero]
      go_simp
      refine (mod_any _ _ _ HP.out HFp.out).mono ?_
      rintro e' w1 ⟨ds1, rfl, hdds1, hBw1⟩
      try replace hBw1 := below_of_drew hBw1
      refine hK _ _ ?_
      clear hK K
      try simp only [List.getElem_toArray, List.getElem_cons_succ, List.getElem_cons_zero, Act.put, List.setIfInBounds_toArray, List.set_cons_zero, List.set_cons_succ]
      exact T2 ds1 w1 hdds1 hBw1
  case t2 =>
    intro ds1 w1 hds1 hB1
    refine wpAny_ready (rs := [3]) (by kernel_rfl) (by simp) ?_
    refine AllReady.cons rfl (fun K hK => ?_) AllReady.nil
    simp only [List.getElem_toArray, List.getElem_cons_succ, List.getElem_cons_zero]
    go_simp
    refine (mod_any _ _ _ HQ.out HFq.out).mono ?_
    rintro e' w2 ⟨ds2, rfl, hdds2, hBw2⟩
    try replace hBw2 := below_of_drew hBw2
    refine hK _ _ ?_
    clear hK K
    try simp only [List.getElem_toArray, List.getElem_cons_succ, List.getElem_cons_zero, Act.put, List.setIfInBounds_toArray, List.set_cons_zero, List.set_cons_succ]
    have HB12 := Lib.hid (hB1.trans (hBw2.mono hB1.size))
    have HD1 := Lib.hid hds1; have HD2 := Lib.hid hdds2
    have HI1 := Lib.hid (poly_sized hds1); have HI2 := Lib.hid (poly_sized hdds2)
    have HM1 := Lib.hid (show cs.size = ds1.size by rw [HP.out.1, hds1.1])
    have HM2 := Lib.hid (show es.size = ds2.size by rw [HQ.out.1, hdds2.1])
    have HA2 := Lib.hid ((HB12.out.block _ HSA.out).trans HA.out)
    have HB2 := Lib.hid ((HB12.out.block _ HSB.out).trans HB.out)
    clear hds1 hB1 hdds2 hBw2
    refine wpAny_ready (rs := [4]) (by kernel_rfl) (by simp) ?_
    refine AllReady.cons rfl (fun K hK => ?_) AllReady.nil
    simp only [List.getElem_toArray, List.getElem_cons_succ, List.getElem_cons_zero]
    refine step_of (by rfl) (wp_store_row 23 (.tmp 2) (.tmp 6) rfl bA ds1 rfl rfl 23 cs HA2.out HI1.out HM1.out HD1.out.cells (hK _ _ ?_))
    clear hK K
    try simp only [List.getElem_toArray, List.getElem_cons_succ, List.getElem_cons_zero, Act.put, List.setIfInBounds_toArray, List.set_cons_zero, List.set_cons_succ]
    refine wpAny_ready (rs := [5]) (by kernel_rfl) (by simp) ?_
    refine AllReady.cons rfl (fun K hK => ?_) AllReady.nil
    simp only [List.getElem_toArray, List.getElem_cons_succ, List.getElem_cons_zero]
    refine step_of (by rfl) (wp_store_row 23 (.tmp 3) (.tmp 8) rfl bB ds2 rfl rfl 23 es ((setRow_other _ _ _ _ HNE.out).trans HB2.out) HI2.out HM2.out HD2.out.cells (hK _ _ ?_))
    clear hK K
    try simp only [List.getElem_toArray, List.getElem_cons_succ, List.getElem_cons_zero, Act.put, List.setIfInBounds_toArray, List.set_cons_zero, List.set_cons_succ]
    refine wpAny_done (by kernel_rfl) ?_ _
    change Exit.then _ _ Exit.normal _ _
    have HRA := Lib.hid (row_of ((setRow_other _ _ _ ds2 (fun e => HNE.out e.symm)).trans (setRow_heap _ _ _ ds1 _ _ HA2.out)) HD1.out)
    have HRB := Lib.hid (row_of (setRow_heap _ _ _ ds2 _ _ ((setRow_other w2 bA bB ds1 HNE.out).trans HB2.out)) HD2.out)
    have HBF := Lib.hid (below_setRow (below_setRow ((HBW.out).trans (HB12.out.mono HSW.out)) HLA.out ds1) HLB.out ds2)
    have HSF : Hid (wA.heap.size ≤ ((w2.setRow bA ds1).setRow bB ds2).heap.size) := Lib.hid (by have := HB12.out.size; simpa using this)
    have HZF := Lib.hid ((setRow_other (w2.setRow bA ds1) bB bZ ds2 HNZ2.out).trans ((setRow_other w2 bA bZ ds1 HNZ1.out).trans ((HB12.out.block _ HSZ.out).trans HZA.out)))
    generalize (w2.setRow bA ds1).setRow bB ds2 = wF at *
    clear HA2 HB2 HM1 HM2 HI1 HI2 HB12
    go_wp2_with fail
    refine (each_sub1 ⟨bA, 0, none⟩ ⟨bB, 0, none⟩ _ (mi (redp p) (redp q)) wF (fun i hi => ⟨by have := nv_lo (redp p i); have := nv_hi (redp p i); have := nv_lo (redp q i); have := nv_hi (redp q i); omega, by have := nv_lo (redp p i); have := nv_hi (redp p i); have := nv_lo (redp q i); have := nv_hi (redp q i); omega, red_sub_nv _ _⟩)
      (fun W i hi hB => sub1_any bA bB (redp p) (redp q) i W hi (below_at hB HRA.out HRA.out.lt) (below_at hB HRB.out HRB.out.lt))).mono ?_
    rintro e w3 ⟨ds, rfl, hD, hB⟩
    have HQ3 := Lib.hid ((hB.block _ (by have := HSZ.out; have := HSF.out; omega)).trans HZF.out)
    have HB3 := Lib.hid (HBF.out.trans (hB.mono HBF.out.size))
    have hi := poly_sized hD
    have hzm : Z.size = ds.size := by rw [HZ.out.1, hD.1]
    have HD := Lib.hid hD; have HI := Lib.hid hi; have HM := Lib.hid hzm; clear hD hB hi hzm
    go_wp2_with (refine wpList_store_row rfl 23 (.tmp 4) (.tmp 10) rfl bZ ds rfl rfl 23 Z HQ3.out HI.out HM.out HD.out.cells ?_)
    refine bodyPost_ret (v := .agg ds) (results_cell_row (p := 4) (ty := 23) (by kernel_rfl) _ _ bZ 23 ds (0, 0) _ rfl (setRow_heap _ _ _ _ _ _ HQ3.out) Try.underlying23 rfl HI.out) rfl ⟨ds, rfl, HD.out, below_setRow HB3.out HLZ.out _⟩

end Go.Proofs.Ytjaaldkkfdfkcaa.Sm
