/- Walks: LargeShift. Written by tools/mk_lgshift.py. -/
import Derived.Test.YtaihlmedeebimaaLgBack
import Derived.Test.YtaihlmedeebimaaLgLaw
namespace Go.Proofs.Ytaihlmedeebimaa.Lg
open Go.RowKit
set_option linter.all false

theorem sx_alloc {l : List (Nat × Array Value)} {w : World} (h : Sx l w) (o : Obj) : Sx l (w.alloc o) := fun x hx => (Below.heap_alloc w o x.1 (Array.getElem?_eq_some_iff.1 (h x hx)).1).trans (h x hx)
theorem sx_ne {l : List (Nat × Array Value)} {w : World} (h : Sx l w) : ∀ x ∈ l, x.1 ≠ w.heap.size := fun x hx => Nat.ne_of_lt (Array.getElem?_eq_some_iff.1 (h x hx)).1
theorem sx_setRow {l : List (Nat × Array Value)} {w : World} {b : Nat} (h : Sx l w) (hn : ∀ x ∈ l, x.1 ≠ b) (cs : Array Value) : Sx l (w.setRow b cs) := fun x hx => (setRow_other w b x.1 cs (hn x hx)).trans (h x hx)
theorem unit_fits (k : Nat) (v : Int) (h : -9223372036854775808 ≤ v ∧ v ≤ 9223372036854775807) : Fits (unitAt k v) := fun i _ => by unfold unitAt; split <;> omega
theorem sx_4 {a b c d : Nat × Array Value} {w : World} (h0 : w.heap[a.1]? = some (.cells a.2 23 (0, 0))) (h1 : w.heap[b.1]? = some (.cells b.2 23 (0, 0))) (h2 : w.heap[c.1]? = some (.cells c.2 23 (0, 0))) (h3 : w.heap[d.1]? = some (.cells d.2 23 (0, 0))) : Sx [a, b, c, d] w := fun x hx => by
  simp only [List.mem_cons, List.not_mem_nil, or_false] at hx
  rcases hx with rfl | rfl | rfl | rfl
  · exact h0
  · exact h1
  · exact h2
  · exact h3

set_option maxHeartbeats 8000000 in
set_option maxRecDepth 100000 in
theorem shift_walk (c0 : Array Value) (x0 : Nat → Int) (a1 : Int) (w : World) (hP0 : IsP c0 x0) (hF0 : Fits x0) (hw : (Lit.int .i32 a1).wf = true) :
    Calls Try.prog 8 #[.agg c0, .int .i32 a1] w fun e w' => e = .returned (.bool true) ∧ Below w.heap.size w w' := by
  have HP0 := Lib.hid hP0; have HF0 := Lib.hid hF0; clear hP0 hF0
  have hb1 : -2147483648 ≤ a1 ∧ a1 ≤ 2147483647 := by
    simp [Lit.wf, IntKind.min, IntKind.max, IntKind.bits, IntKind.signed] at hw
    exact hw
  obtain ⟨g1, g2⟩ := hb1
  clear hw
  obtain ⟨Z, hz, hZ⟩ := zero_poly
  have HZ := Lib.hid hZ
  have HX := Lib.hid (show IsP (Z.setIfInBounds 1 (.int .i64 1)) (unitAt 1 1) from isp_set hZ 1 1)
  have HY := Lib.hid (show IsP (Z.setIfInBounds 0 (.int .i64 a1)) (unitAt 0 a1) from isp_set hZ 0 a1)
  clear hZ
  have g0 := heap_alloc_last w (.cells c0 23)
  have HA0 := Lib.hid g0; clear g0
  have HB0 := Lib.hid ((Below.refl w.heap.size w).alloc (Nat.le_refl _) (.cells c0 23))
  go_enter Try.func8, Try.ntmps8
  go_wp2_with fail
  refine (head_any _).mono ?_
  rintro e' w1 ⟨rfl, hB⟩
  have hs1 : w.heap.size + 1 ≤ w1.heap.size := by have := hB.size; simpa using this
  have HA0 := Lib.hid ((hB.block (w.heap.size) (by simp <;> omega)).trans HA0.out)
  have HB1 := Lib.hid (HB0.out.trans (hB.mono HB0.out.size))
  clear hB HB0
  obtain ⟨b0, hb0⟩ : ∃ b, w.heap.size = b := ⟨_, rfl⟩
  rw [hb0] at HA0
  have hl0 : b0 < w1.heap.size := by omega
  rw [hb0]
  clear hb0 hs1
  have z1 : Z[1]? = some (.int .i64 0) := HZ.out.2 1 (by omega)
  go_wp2
  have HX1 := Lib.hid (heap_alloc_last w1 (.cells (Z.setIfInBounds 1 (.int .i64 1)) 23))
  have HA1 := Lib.hid ((Below.heap_alloc w1 (.cells (Z.setIfInBounds 1 (.int .i64 1)) 23) b0 hl0).trans HA0.out)
  have HB2 := Lib.hid (HB1.out.alloc HB1.out.size (.cells (Z.setIfInBounds 1 (.int .i64 1)) 23))
  obtain ⟨bx, hbx⟩ : ∃ b, w1.heap.size = b := ⟨_, rfl⟩
  rw [hbx] at HX1
  have HS2 : Hid (Sx [(b0, c0), (bx, (Z.setIfInBounds 1 (.int .i64 1)))] (w1.alloc (.cells (Z.setIfInBounds 1 (.int .i64 1)) 23)).drew) := Lib.hid (sx_two HA1.out HX1.out)
  have HB3 : Hid (Below w.heap.size w (w1.alloc (.cells (Z.setIfInBounds 1 (.int .i64 1)) 23)).drew) := Lib.hid HB2.out.drew
  change Code.wp _ _ _ _ (w1.alloc (.cells (Z.setIfInBounds 1 (.int .i64 1)) 23))
  generalize w1.alloc (.cells (Z.setIfInBounds 1 (.int .i64 1)) 23) = w2 at *
  generalize (Z.setIfInBounds 1 (.int .i64 1)) = xs at *
  rw [hbx]
  clear hbx HA0 HA1 HX1 HB1 HB2 z1 hl0
  rename_i K ha
  obtain ⟨q0, hq0⟩ : ∃ q, World.drew w2 = q := ⟨_, rfl⟩
  rw [hq0] at HS2 HB3
  have HQ0 := Lib.hid hq0; clear hq0
  refine have TL : ∀ (b : Nat) (d1 d2 d3 d4 : Array Value) (W : World), IsP d4 (up (shX (redp x0))) → W.heap[b]? = some (.cells d4 23 (0, 0)) → Sx [(b0, c0), (bx, xs)] W → (∀ x ∈ ([(b0, c0), (bx, xs)] : List (Nat × Array Value)), x.1 ≠ b) → w.heap.size ≤ b → Below w.heap.size w W → K { tmps := #[.agg c0, .int .i32 a1, .pointer (some ⟨b0, 0, none⟩), undef, .bool false, .bool true, .pointer (some ⟨bx, 0, none⟩), .pointer (some ⟨b, 0, none⟩), undef, undef, undef, undef, undef, .bool true, .pointer (some ⟨bx, 1, none⟩), .agg c0, .agg d1, .agg xs, .agg d2, .agg d3, .agg d4, undef, undef, undef, undef, undef, undef, undef, undef, undef, undef, undef, undef, undef, undef, undef, undef, undef, undef, undef, undef, undef, undef, undef, undef, undef, undef, undef, undef, undef, undef, undef, undef, undef, undef, undef, undef, undef, undef, undef, undef, undef, undef, undef, undef, undef, undef, undef, undef, undef, undef], defers := [] } W := ?tl; ?main
  case main =>
    refine region_calm ?_
    refine wp_region_any (by kernel_rfl) ?_
    change wpAny _ _ _ _ _ _ _ (World.drew w2)
    rw [HQ0.out]
    refine wpAny_of_held (S := Sx [(b0, c0), (bx, xs)]) _ _ _ _ ?_
    refine wpAnyH_take (i := 0) (v := .agg c0) rfl (by kernel_rfl) (by kernel_rfl) (by kernel_rfl) (fun _ _ _ h => h) (Or.inl ⟨by rfl, ?y0ld⟩) HS2.out ?r0ld
    case y0ld => (intro w' hSw; exact exec_load (.tmp 2) (by rfl) b0 c0 (by rfl) (hSw (b0, c0) (by simp)) (poly_sized HP0.out))
    simp only [List.getElem_toArray, List.getElem_cons_succ, List.getElem_cons_zero, Act.put, List.setIfInBounds_toArray, List.set_cons_zero, List.set_cons_succ]
    refine wpAnyH_take (i := 2) (v := .agg xs) rfl (by kernel_rfl) (by kernel_rfl) (by kernel_rfl) (fun _ _ _ h => h) (Or.inl ⟨by rfl, ?y2ld⟩) HS2.out ?r2ld
    case y2ld => (intro w' hSw; exact exec_load (.tmp 6) (by rfl) bx xs (by rfl) (hSw (bx, xs) (by simp)) (poly_sized HX.out))
    simp only [List.getElem_toArray, List.getElem_cons_succ, List.getElem_cons_zero, Act.put, List.setIfInBounds_toArray, List.set_cons_zero, List.set_cons_succ]
    refine wpAnyH_ready (rs := [1, 6]) (by kernel_rfl) (by simp) ?_
    refine AllReadyH.cons rfl (fun K' hK => ?_) (AllReadyH.cons rfl (fun K' hK => ?_) AllReadyH.nil)
    · skip
      simp only [List.getElem_toArray, List.getElem_cons_succ, List.getElem_cons_zero]
      go_simp
      refine (ntt_any c0 x0 _ HP0.out HF0.out).mono ?_
      rintro e' q1 ⟨d1, rfl, h, hB⟩
      have HSq1 := Lib.hid (sx_below HS2.out hB)
      have HBq1 := Lib.hid (HB3.out.trans (hB.mono HB3.out.size))
      clear hB
      have H1 := Lib.hid h
      clear h
      refine hK.out _ _ HSq1.out (fun _ => ?_)
      clear hK K'
      try simp only [List.getElem_toArray, List.getElem_cons_succ, List.getElem_cons_zero, Act.put, List.setIfInBounds_toArray, List.set_cons_zero, List.set_cons_succ]
      refine wpAnyH_ready (rs := [3, 6]) (by kernel_rfl) (by simp) ?_
      refine AllReadyH.cons rfl (fun K' hK => ?_) (AllReadyH.cons rfl (fun K' hK => ?_) AllReadyH.nil)
      · skip
        simp only [List.getElem_toArray, List.getElem_cons_succ, List.getElem_cons_zero]
        go_simp
        refine (ntt_any xs _ _ HX.out (unit_fits 1 1 (by omega))).mono ?_
        rintro e' q2 ⟨d2, rfl, h, hB⟩
        have HSq2 := Lib.hid (sx_below HSq1.out hB)
        have HBq2 := Lib.hid (HBq1.out.trans (hB.mono HBq1.out.size))
        clear hB
        have H2 := Lib.hid h
        clear h
        refine hK.out _ _ HSq2.out (fun _ => ?_)
        clear hK K'
        try simp only [List.getElem_toArray, List.getElem_cons_succ, List.getElem_cons_zero, Act.put, List.setIfInBounds_toArray, List.set_cons_zero, List.set_cons_succ]
        refine wpAnyH_ready (rs := [4, 6]) (by kernel_rfl) (by simp) ?_
        refine AllReadyH.cons rfl (fun K' hK => ?_) (AllReadyH.cons rfl (fun K' hK => ?_) AllReadyH.nil)
        · skip
          simp only [List.getElem_toArray, List.getElem_cons_succ, List.getElem_cons_zero]
          go_simp
          refine (tim_any d1 d2 _ _ _ H1.out H2.out (fits_up _) (fits_up _)).mono ?_
          rintro e' q3 ⟨d3, rfl, h, hB⟩
          have HSq3 := Lib.hid (sx_below HSq2.out hB)
          have HBq3 := Lib.hid (HBq2.out.trans (hB.mono HBq2.out.size))
          clear hB
          rw [redp_up, redp_up] at h
          have H3 := Lib.hid h
          clear h
          refine hK.out _ _ HSq3.out (fun _ => ?_)
          clear hK K'
          try simp only [List.getElem_toArray, List.getElem_cons_succ, List.getElem_cons_zero, Act.put, List.setIfInBounds_toArray, List.set_cons_zero, List.set_cons_succ]
          refine wpAnyH_ready (rs := [5, 6]) (by kernel_rfl) (by simp) ?_
          refine AllReadyH.cons rfl (fun K' hK => ?_) (AllReadyH.cons rfl (fun K' hK => ?_) AllReadyH.nil)
          · skip
            simp only [List.getElem_toArray, List.getElem_cons_succ, List.getElem_cons_zero]
            go_simp
            refine (inv_any d3 _ _ H3.out (fits_up _)).mono ?_
            rintro e' q4 ⟨d4, rfl, h, hB⟩
            have HSq4 := Lib.hid (sx_below HSq3.out hB)
            have HBq4 := Lib.hid (HBq3.out.trans (hB.mono HBq3.out.size))
            clear hB
            rw [redp_up] at h
            have H4 := Lib.hid (h.eqv (shift_is (redp x0)))
            clear h
            refine hK.out _ _ HSq4.out (fun _ => ?_)
            clear hK K'
            try simp only [List.getElem_toArray, List.getElem_cons_succ, List.getElem_cons_zero, Act.put, List.setIfInBounds_toArray, List.set_cons_zero, List.set_cons_succ]
            refine wpAnyH_ready (rs := [6]) (by kernel_rfl) (by simp) ?_
            refine AllReadyH.cons rfl (fun K' hK => ?_) AllReadyH.nil
            simp only [List.getElem_toArray, List.getElem_cons_succ, List.getElem_cons_zero]
            go_simp
            have HSp5 := Lib.hid (sx_alloc HSq4.out (.cells Z 23))
            have HBp5 := Lib.hid (HBq4.out.alloc HBq4.out.size (.cells Z 23))
            have HNp5 := Lib.hid (sx_ne HSq4.out)
            have HLp5 := Lib.hid HBq4.out.size
            have HKp5 := Lib.hid (heap_alloc_last q4 (.cells Z 23))
            have hlp5 := Lib.hid (Array.getElem?_eq_some_iff.1 HKp5.out).1
            refine hK.out _ _ HSp5.out (fun _ => ?_)
            clear hK K'
            try simp only [List.getElem_toArray, List.getElem_cons_succ, List.getElem_cons_zero, Act.put, List.setIfInBounds_toArray, List.set_cons_zero, List.set_cons_succ]
            refine wpAnyH_ready (rs := [7]) (by kernel_rfl) (by simp) ?_
            refine AllReadyH.cons rfl (fun K' hK => ?_) AllReadyH.nil
            simp only [List.getElem_toArray, List.getElem_cons_succ, List.getElem_cons_zero]
            refine step_of (by rfl) (wp_store_row 23 (.tmp 7) (.tmp 20) rfl _ d4 rfl rfl 23 Z HKp5.out (poly_sized H4.out) (by rw [HZ.out.1, H4.out.1]) H4.out.cells (hK.out _ _ (sx_setRow HSp5.out HNp5.out d4) (fun _ => ?_)))
            clear hK K'
            try simp only [List.getElem_toArray, List.getElem_cons_succ, List.getElem_cons_zero, Act.put, List.setIfInBounds_toArray, List.set_cons_zero, List.set_cons_succ]
            refine wpAnyH_done (by kernel_rfl) ?_ _
            exact TL _ d1 d2 d3 d4 _ H4.out (setRow_heap _ _ _ _ _ _ HKp5.out) (sx_setRow HSp5.out HNp5.out d4) HNp5.out HLp5.out (below_setRow HBp5.out HLp5.out d4)
          · skip
            simp only [List.getElem_toArray, List.getElem_cons_succ, List.getElem_cons_zero]
            go_simp
            have HSp6 := Lib.hid (sx_alloc HSq3.out (.cells Z 23))
            have HBp6 := Lib.hid (HBq3.out.alloc HBq3.out.size (.cells Z 23))
            have HNp6 := Lib.hid (sx_ne HSq3.out)
            have HLp6 := Lib.hid HBq3.out.size
            have HKp6 := Lib.hid (heap_alloc_last q3 (.cells Z 23))
            have hlp6 := Lib.hid (Array.getElem?_eq_some_iff.1 HKp6.out).1
            refine hK.out _ _ HSp6.out (fun _ => ?_)
            clear hK K'
            try simp only [List.getElem_toArray, List.getElem_cons_succ, List.getElem_cons_zero, Act.put, List.setIfInBounds_toArray, List.set_cons_zero, List.set_cons_succ]
            refine wpAnyH_ready (rs := [5]) (by kernel_rfl) (by simp) ?_
            refine AllReadyH.cons rfl (fun K' hK => ?_) AllReadyH.nil
            simp only [List.getElem_toArray, List.getElem_cons_succ, List.getElem_cons_zero]
            go_simp
            refine (inv_any d3 _ _ H3.out (fits_up _)).mono ?_
            rintro e' q7 ⟨d4, rfl, h, hB⟩
            have HSq7 := Lib.hid (sx_below HSp6.out hB)
            have HBq7 := Lib.hid (HBp6.out.trans (hB.mono HBp6.out.size))
            have HKq7 := Lib.hid ((hB.block _ hlp6.out).trans HKp6.out)
            have hlq7 := Lib.hid (Nat.lt_of_lt_of_le hlp6.out hB.size)
            clear hB
            rw [redp_up] at h
            have H4 := Lib.hid (h.eqv (shift_is (redp x0)))
            clear h
            refine hK.out _ _ HSq7.out (fun _ => ?_)
            clear hK K'
            try simp only [List.getElem_toArray, List.getElem_cons_succ, List.getElem_cons_zero, Act.put, List.setIfInBounds_toArray, List.set_cons_zero, List.set_cons_succ]
            refine wpAnyH_ready (rs := [7]) (by kernel_rfl) (by simp) ?_
            refine AllReadyH.cons rfl (fun K' hK => ?_) AllReadyH.nil
            simp only [List.getElem_toArray, List.getElem_cons_succ, List.getElem_cons_zero]
            refine step_of (by rfl) (wp_store_row 23 (.tmp 7) (.tmp 20) rfl _ d4 rfl rfl 23 Z HKq7.out (poly_sized H4.out) (by rw [HZ.out.1, H4.out.1]) H4.out.cells (hK.out _ _ (sx_setRow HSq7.out HNp6.out d4) (fun _ => ?_)))
            clear hK K'
            try simp only [List.getElem_toArray, List.getElem_cons_succ, List.getElem_cons_zero, Act.put, List.setIfInBounds_toArray, List.set_cons_zero, List.set_cons_succ]
            refine wpAnyH_done (by kernel_rfl) ?_ _
            exact TL _ d1 d2 d3 d4 _ H4.out (setRow_heap _ _ _ _ _ _ HKq7.out) (sx_setRow HSq7.out HNp6.out d4) HNp6.out HLp6.out (below_setRow HBq7.out HLp6.out d4)
        · skip
          simp only [List.getElem_toArray, List.getElem_cons_succ, List.getElem_cons_zero]
          go_simp
          have HSp8 := Lib.hid (sx_alloc HSq2.out (.cells Z 23))
          have HBp8 := Lib.hid (HBq2.out.alloc HBq2.out.size (.cells Z 23))
          have HNp8 := Lib.hid (sx_ne HSq2.out)
          have HLp8 := Lib.hid HBq2.out.size
          have HKp8 := Lib.hid (heap_alloc_last q2 (.cells Z 23))
          have hlp8 := Lib.hid (Array.getElem?_eq_some_iff.1 HKp8.out).1
          refine hK.out _ _ HSp8.out (fun _ => ?_)
          clear hK K'
          try simp only [List.getElem_toArray, List.getElem_cons_succ, List.getElem_cons_zero, Act.put, List.setIfInBounds_toArray, List.set_cons_zero, List.set_cons_succ]
          refine wpAnyH_ready (rs := [4]) (by kernel_rfl) (by simp) ?_
          refine AllReadyH.cons rfl (fun K' hK => ?_) AllReadyH.nil
          simp only [List.getElem_toArray, List.getElem_cons_succ, List.getElem_cons_zero]
          go_simp
          refine (tim_any d1 d2 _ _ _ H1.out H2.out (fits_up _) (fits_up _)).mono ?_
          rintro e' q9 ⟨d3, rfl, h, hB⟩
          have HSq9 := Lib.hid (sx_below HSp8.out hB)
          have HBq9 := Lib.hid (HBp8.out.trans (hB.mono HBp8.out.size))
          have HKq9 := Lib.hid ((hB.block _ hlp8.out).trans HKp8.out)
          have hlq9 := Lib.hid (Nat.lt_of_lt_of_le hlp8.out hB.size)
          clear hB
          rw [redp_up, redp_up] at h
          have H3 := Lib.hid h
          clear h
          refine hK.out _ _ HSq9.out (fun _ => ?_)
          clear hK K'
          try simp only [List.getElem_toArray, List.getElem_cons_succ, List.getElem_cons_zero, Act.put, List.setIfInBounds_toArray, List.set_cons_zero, List.set_cons_succ]
          refine wpAnyH_ready (rs := [5]) (by kernel_rfl) (by simp) ?_
          refine AllReadyH.cons rfl (fun K' hK => ?_) AllReadyH.nil
          simp only [List.getElem_toArray, List.getElem_cons_succ, List.getElem_cons_zero]
          go_simp
          refine (inv_any d3 _ _ H3.out (fits_up _)).mono ?_
          rintro e' q10 ⟨d4, rfl, h, hB⟩
          have HSq10 := Lib.hid (sx_below HSq9.out hB)
          have HBq10 := Lib.hid (HBq9.out.trans (hB.mono HBq9.out.size))
          have HKq10 := Lib.hid ((hB.block _ hlq9.out).trans HKq9.out)
          have hlq10 := Lib.hid (Nat.lt_of_lt_of_le hlq9.out hB.size)
          clear hB
          rw [redp_up] at h
          have H4 := Lib.hid (h.eqv (shift_is (redp x0)))
          clear h
          refine hK.out _ _ HSq10.out (fun _ => ?_)
          clear hK K'
          try simp only [List.getElem_toArray, List.getElem_cons_succ, List.getElem_cons_zero, Act.put, List.setIfInBounds_toArray, List.set_cons_zero, List.set_cons_succ]
          refine wpAnyH_ready (rs := [7]) (by kernel_rfl) (by simp) ?_
          refine AllReadyH.cons rfl (fun K' hK => ?_) AllReadyH.nil
          simp only [List.getElem_toArray, List.getElem_cons_succ, List.getElem_cons_zero]
          refine step_of (by rfl) (wp_store_row 23 (.tmp 7) (.tmp 20) rfl _ d4 rfl rfl 23 Z HKq10.out (poly_sized H4.out) (by rw [HZ.out.1, H4.out.1]) H4.out.cells (hK.out _ _ (sx_setRow HSq10.out HNp8.out d4) (fun _ => ?_)))
          clear hK K'
          try simp only [List.getElem_toArray, List.getElem_cons_succ, List.getElem_cons_zero, Act.put, List.setIfInBounds_toArray, List.set_cons_zero, List.set_cons_succ]
          refine wpAnyH_done (by kernel_rfl) ?_ _
          exact TL _ d1 d2 d3 d4 _ H4.out (setRow_heap _ _ _ _ _ _ HKq10.out) (sx_setRow HSq10.out HNp8.out d4) HNp8.out HLp8.out (below_setRow HBq10.out HLp8.out d4)
      · skip
        simp only [List.getElem_toArray, List.getElem_cons_succ, List.getElem_cons_zero]
        go_simp
        have HSp11 := Lib.hid (sx_alloc HSq1.out (.cells Z 23))
        have HBp11 := Lib.hid (HBq1.out.alloc HBq1.out.size (.cells Z 23))
        have HNp11 := Lib.hid (sx_ne HSq1.out)
        have HLp11 := Lib.hid HBq1.out.size
        have HKp11 := Lib.hid (heap_alloc_last q1 (.cells Z 23))
        have hlp11 := Lib.hid (Array.getElem?_eq_some_iff.1 HKp11.out).1
        refine hK.out _ _ HSp11.out (fun _ => ?_)
        clear hK K'
        try simp only [List.getElem_toArray, List.getElem_cons_succ, List.getElem_cons_zero, Act.put, List.setIfInBounds_toArray, List.set_cons_zero, List.set_cons_succ]
        refine wpAnyH_ready (rs := [3]) (by kernel_rfl) (by simp) ?_
        refine AllReadyH.cons rfl (fun K' hK => ?_) AllReadyH.nil
        simp only [List.getElem_toArray, List.getElem_cons_succ, List.getElem_cons_zero]
        go_simp
        refine (ntt_any xs _ _ HX.out (unit_fits 1 1 (by omega))).mono ?_
        rintro e' q12 ⟨d2, rfl, h, hB⟩
        have HSq12 := Lib.hid (sx_below HSp11.out hB)
        have HBq12 := Lib.hid (HBp11.out.trans (hB.mono HBp11.out.size))
        have HKq12 := Lib.hid ((hB.block _ hlp11.out).trans HKp11.out)
        have hlq12 := Lib.hid (Nat.lt_of_lt_of_le hlp11.out hB.size)
        clear hB
        have H2 := Lib.hid h
        clear h
        refine hK.out _ _ HSq12.out (fun _ => ?_)
        clear hK K'
        try simp only [List.getElem_toArray, List.getElem_cons_succ, List.getElem_cons_zero, Act.put, List.setIfInBounds_toArray, List.set_cons_zero, List.set_cons_succ]
        refine wpAnyH_ready (rs := [4]) (by kernel_rfl) (by simp) ?_
        refine AllReadyH.cons rfl (fun K' hK => ?_) AllReadyH.nil
        simp only [List.getElem_toArray, List.getElem_cons_succ, List.getElem_cons_zero]
        go_simp
        refine (tim_any d1 d2 _ _ _ H1.out H2.out (fits_up _) (fits_up _)).mono ?_
        rintro e' q13 ⟨d3, rfl, h, hB⟩
        have HSq13 := Lib.hid (sx_below HSq12.out hB)
        have HBq13 := Lib.hid (HBq12.out.trans (hB.mono HBq12.out.size))
        have HKq13 := Lib.hid ((hB.block _ hlq12.out).trans HKq12.out)
        have hlq13 := Lib.hid (Nat.lt_of_lt_of_le hlq12.out hB.size)
        clear hB
        rw [redp_up, redp_up] at h
        have H3 := Lib.hid h
        clear h
        refine hK.out _ _ HSq13.out (fun _ => ?_)
        clear hK K'
        try simp only [List.getElem_toArray, List.getElem_cons_succ, List.getElem_cons_zero, Act.put, List.setIfInBounds_toArray, List.set_cons_zero, List.set_cons_succ]
        refine wpAnyH_ready (rs := [5]) (by kernel_rfl) (by simp) ?_
        refine AllReadyH.cons rfl (fun K' hK => ?_) AllReadyH.nil
        simp only [List.getElem_toArray, List.getElem_cons_succ, List.getElem_cons_zero]
        go_simp
        refine (inv_any d3 _ _ H3.out (fits_up _)).mono ?_
        rintro e' q14 ⟨d4, rfl, h, hB⟩
        have HSq14 := Lib.hid (sx_below HSq13.out hB)
        have HBq14 := Lib.hid (HBq13.out.trans (hB.mono HBq13.out.size))
        have HKq14 := Lib.hid ((hB.block _ hlq13.out).trans HKq13.out)
        have hlq14 := Lib.hid (Nat.lt_of_lt_of_le hlq13.out hB.size)
        clear hB
        rw [redp_up] at h
        have H4 := Lib.hid (h.eqv (shift_is (redp x0)))
        clear h
        refine hK.out _ _ HSq14.out (fun _ => ?_)
        clear hK K'
        try simp only [List.getElem_toArray, List.getElem_cons_succ, List.getElem_cons_zero, Act.put, List.setIfInBounds_toArray, List.set_cons_zero, List.set_cons_succ]
        refine wpAnyH_ready (rs := [7]) (by kernel_rfl) (by simp) ?_
        refine AllReadyH.cons rfl (fun K' hK => ?_) AllReadyH.nil
        simp only [List.getElem_toArray, List.getElem_cons_succ, List.getElem_cons_zero]
        refine step_of (by rfl) (wp_store_row 23 (.tmp 7) (.tmp 20) rfl _ d4 rfl rfl 23 Z HKq14.out (poly_sized H4.out) (by rw [HZ.out.1, H4.out.1]) H4.out.cells (hK.out _ _ (sx_setRow HSq14.out HNp11.out d4) (fun _ => ?_)))
        clear hK K'
        try simp only [List.getElem_toArray, List.getElem_cons_succ, List.getElem_cons_zero, Act.put, List.setIfInBounds_toArray, List.set_cons_zero, List.set_cons_succ]
        refine wpAnyH_done (by kernel_rfl) ?_ _
        exact TL _ d1 d2 d3 d4 _ H4.out (setRow_heap _ _ _ _ _ _ HKq14.out) (sx_setRow HSq14.out HNp11.out d4) HNp11.out HLp11.out (below_setRow HBq14.out HLp11.out d4)
    · skip
      simp only [List.getElem_toArray, List.getElem_cons_succ, List.getElem_cons_zero]
      go_simp
      have HSp15 := Lib.hid (sx_alloc HS2.out (.cells Z 23))
      have HBp15 := Lib.hid (HB3.out.alloc HB3.out.size (.cells Z 23))
      have HNp15 := Lib.hid (sx_ne HS2.out)
      have HLp15 := Lib.hid HB3.out.size
      have HKp15 := Lib.hid (heap_alloc_last q0 (.cells Z 23))
      have hlp15 := Lib.hid (Array.getElem?_eq_some_iff.1 HKp15.out).1
      refine hK.out _ _ HSp15.out (fun _ => ?_)
      clear hK K'
      try simp only [List.getElem_toArray, List.getElem_cons_succ, List.getElem_cons_zero, Act.put, List.setIfInBounds_toArray, List.set_cons_zero, List.set_cons_succ]
      refine wpAnyH_ready (rs := [1]) (by kernel_rfl) (by simp) ?_
      refine AllReadyH.cons rfl (fun K' hK => ?_) AllReadyH.nil
      simp only [List.getElem_toArray, List.getElem_cons_succ, List.getElem_cons_zero]
      go_simp
      refine (ntt_any c0 x0 _ HP0.out HF0.out).mono ?_
      rintro e' q16 ⟨d1, rfl, h, hB⟩
      have HSq16 := Lib.hid (sx_below HSp15.out hB)
      have HBq16 := Lib.hid (HBp15.out.trans (hB.mono HBp15.out.size))
      have HKq16 := Lib.hid ((hB.block _ hlp15.out).trans HKp15.out)
      have hlq16 := Lib.hid (Nat.lt_of_lt_of_le hlp15.out hB.size)
      clear hB
      have H1 := Lib.hid h
      clear h
      refine hK.out _ _ HSq16.out (fun _ => ?_)
      clear hK K'
      try simp only [List.getElem_toArray, List.getElem_cons_succ, List.getElem_cons_zero, Act.put, List.setIfInBounds_toArray, List.set_cons_zero, List.set_cons_succ]
      refine wpAnyH_ready (rs := [3]) (by kernel_rfl) (by simp) ?_
      refine AllReadyH.cons rfl (fun K' hK => ?_) AllReadyH.nil
      simp only [List.getElem_toArray, List.getElem_cons_succ, List.getElem_cons_zero]
      go_simp
      refine (ntt_any xs _ _ HX.out (unit_fits 1 1 (by omega))).mono ?_
      rintro e' q17 ⟨d2, rfl, h, hB⟩
      have HSq17 := Lib.hid (sx_below HSq16.out hB)
      have HBq17 := Lib.hid (HBq16.out.trans (hB.mono HBq16.out.size))
      have HKq17 := Lib.hid ((hB.block _ hlq16.out).trans HKq16.out)
      have hlq17 := Lib.hid (Nat.lt_of_lt_of_le hlq16.out hB.size)
      clear hB
      have H2 := Lib.hid h
      clear h
      refine hK.out _ _ HSq17.out (fun _ => ?_)
      clear hK K'
      try simp only [List.getElem_toArray, List.getElem_cons_succ, List.getElem_cons_zero, Act.put, List.setIfInBounds_toArray, List.set_cons_zero, List.set_cons_succ]
      refine wpAnyH_ready (rs := [4]) (by kernel_rfl) (by simp) ?_
      refine AllReadyH.cons rfl (fun K' hK => ?_) AllReadyH.nil
      simp only [List.getElem_toArray, List.getElem_cons_succ, List.getElem_cons_zero]
      go_simp
      refine (tim_any d1 d2 _ _ _ H1.out H2.out (fits_up _) (fits_up _)).mono ?_
      rintro e' q18 ⟨d3, rfl, h, hB⟩
      have HSq18 := Lib.hid (sx_below HSq17.out hB)
      have HBq18 := Lib.hid (HBq17.out.trans (hB.mono HBq17.out.size))
      have HKq18 := Lib.hid ((hB.block _ hlq17.out).trans HKq17.out)
      have hlq18 := Lib.hid (Nat.lt_of_lt_of_le hlq17.out hB.size)
      clear hB
      rw [redp_up, redp_up] at h
      have H3 := Lib.hid h
      clear h
      refine hK.out _ _ HSq18.out (fun _ => ?_)
      clear hK K'
      try simp only [List.getElem_toArray, List.getElem_cons_succ, List.getElem_cons_zero, Act.put, List.setIfInBounds_toArray, List.set_cons_zero, List.set_cons_succ]
      refine wpAnyH_ready (rs := [5]) (by kernel_rfl) (by simp) ?_
      refine AllReadyH.cons rfl (fun K' hK => ?_) AllReadyH.nil
      simp only [List.getElem_toArray, List.getElem_cons_succ, List.getElem_cons_zero]
      go_simp
      refine (inv_any d3 _ _ H3.out (fits_up _)).mono ?_
      rintro e' q19 ⟨d4, rfl, h, hB⟩
      have HSq19 := Lib.hid (sx_below HSq18.out hB)
      have HBq19 := Lib.hid (HBq18.out.trans (hB.mono HBq18.out.size))
      have HKq19 := Lib.hid ((hB.block _ hlq18.out).trans HKq18.out)
      have hlq19 := Lib.hid (Nat.lt_of_lt_of_le hlq18.out hB.size)
      clear hB
      rw [redp_up] at h
      have H4 := Lib.hid (h.eqv (shift_is (redp x0)))
      clear h
      refine hK.out _ _ HSq19.out (fun _ => ?_)
      clear hK K'
      try simp only [List.getElem_toArray, List.getElem_cons_succ, List.getElem_cons_zero, Act.put, List.setIfInBounds_toArray, List.set_cons_zero, List.set_cons_succ]
      refine wpAnyH_ready (rs := [7]) (by kernel_rfl) (by simp) ?_
      refine AllReadyH.cons rfl (fun K' hK => ?_) AllReadyH.nil
      simp only [List.getElem_toArray, List.getElem_cons_succ, List.getElem_cons_zero]
      refine step_of (by rfl) (wp_store_row 23 (.tmp 7) (.tmp 20) rfl _ d4 rfl rfl 23 Z HKq19.out (poly_sized H4.out) (by rw [HZ.out.1, H4.out.1]) H4.out.cells (hK.out _ _ (sx_setRow HSq19.out HNp15.out d4) (fun _ => ?_)))
      clear hK K'
      try simp only [List.getElem_toArray, List.getElem_cons_succ, List.getElem_cons_zero, Act.put, List.setIfInBounds_toArray, List.set_cons_zero, List.set_cons_succ]
      refine wpAnyH_done (by kernel_rfl) ?_ _
      exact TL _ d1 d2 d3 d4 _ H4.out (setRow_heap _ _ _ _ _ _ HKq19.out) (sx_setRow HSq19.out HNp15.out d4) HNp15.out HLp15.out (below_setRow HBq19.out HLp15.out d4)
  case tl =>
    intro b f1 f2 f3 ps W hD hb hS hN hlo hB
    refine ha _ _ ?_
    have HD := Lib.hid hD; have HBK := Lib.hid hb; have HAW := Lib.hid (hS (b0, c0) (by simp)); have HBW := Lib.hid hB; have HLO := Lib.hid hlo
    clear hD hb hS hlo hB hN
    go_wp2_with (refine wpList_load_row rfl 23 (.tmp 2) rfl b0 rfl 23 c0 (0, 0) _ HAW.out Try.underlying23 rfl (poly_sized HP0.out) ?_)
    refine (mod_any c0 x0 _ HP0.out HF0.out).mono ?_
    rintro e' w4 ⟨ms, rfl, hM, hB⟩
    have HM := Lib.hid hM
    have hlb := (Array.getElem?_eq_some_iff.1 HBK.out).1
    have hla := (Array.getElem?_eq_some_iff.1 HAW.out).1
    have hs4 := hB.size
    have e5 : (w4.alloc (.cells ms 23)).heap.size = w4.heap.size + 1 := by simp
    have HRM := Lib.hid ((Below.heap_alloc (w4.alloc (.cells ms 23)) (.cells (Z.setIfInBounds 0 (.int .i64 a1)) 23) w4.heap.size (by omega)).trans (heap_alloc_last w4 (.cells ms 23)))
    have HRB := Lib.hid ((Below.heap_alloc (w4.alloc (.cells ms 23)) (.cells (Z.setIfInBounds 0 (.int .i64 a1)) 23) b (by omega)).trans ((Below.heap_alloc w4 (.cells ms 23) b (by omega)).trans ((hB.block b hlb).trans HBK.out)))
    have HRA := Lib.hid ((Below.heap_alloc (w4.alloc (.cells ms 23)) (.cells (Z.setIfInBounds 0 (.int .i64 a1)) 23) b0 (by omega)).trans ((Below.heap_alloc w4 (.cells ms 23) b0 (by omega)).trans ((hB.block b0 hla).trans HAW.out)))
    have hry := heap_alloc_last (w4.alloc (.cells ms 23)) (.cells (Z.setIfInBounds 0 (.int .i64 a1)) 23)
    rw [e5] at hry
    have HRY := Lib.hid hry
    have HB4 := Lib.hid (HBW.out.trans (hB.mono HBW.out.size))
    have HB5 := Lib.hid ((HB4.out.alloc HB4.out.size (.cells ms 23)).alloc (by have := HB4.out.size; omega) (.cells (Z.setIfInBounds 0 (.int .i64 a1)) 23))
    have z0 : Z[0]? = some (.int .i64 0) := HZ.out.2 0 (by omega)
    clear hM hB HBK HBW HAW HB4 hry e5
    go_wp2_with (refine wpList_store_row rfl 23 (.tmp 8) (.tmp 22) rfl w4.heap.size ms rfl rfl 23 Z (heap_alloc_last w4 _) (poly_sized HM.out) (by rw [HZ.out.1, HM.out.1]) HM.out.cells ?_; rw [World.setRow_alloc_new])
    obtain ⟨bm, hbm⟩ : ∃ b, w4.heap.size = b := ⟨_, rfl⟩
    obtain ⟨bc, hbc⟩ : ∃ b, w4.heap.size + 1 = b := ⟨_, rfl⟩
    rw [hbm] at HRM; rw [hbc] at HRY
    have HSA : Hid (Sx [(b0, c0), (b, ps), (bm, ms), (bc, (Z.setIfInBounds 0 (.int .i64 a1)))] ((w4.alloc (.cells ms 23)).alloc (.cells (Z.setIfInBounds 0 (.int .i64 a1)) 23)).drew) := Lib.hid (sx_4 HRA.out HRB.out HRM.out HRY.out)
    have HBA : Hid (Below w.heap.size w ((w4.alloc (.cells ms 23)).alloc (.cells (Z.setIfInBounds 0 (.int .i64 a1)) 23)).drew) := Lib.hid HB5.out.drew
    change Code.wp _ _ _ _ ((w4.alloc (.cells ms 23)).alloc (.cells (Z.setIfInBounds 0 (.int .i64 a1)) 23))
    generalize (w4.alloc (.cells ms 23)).alloc (.cells (Z.setIfInBounds 0 (.int .i64 a1)) 23) = w5 at *
    generalize (Z.setIfInBounds 0 (.int .i64 a1)) = ys at *
    rw [hbc, hbm]
    clear hbc hbm z0 HRA HRB HRM HRY HB5 hs4 hlb hla
    rename_i K ha2
    obtain ⟨q0, hq0⟩ : ∃ q, World.drew w5 = q := ⟨_, rfl⟩
    rw [hq0] at HSA HBA
    have HQ0 := Lib.hid hq0; clear hq0
    refine have TLB : ∀ (bBB : Nat) (d1 d2 d3 d4 : Array Value) (W : World), IsP d4 (up (sc (red a1) (redp x0))) → W.heap[bBB]? = some (.cells d4 23 (0, 0)) → Sx [(b0, c0), (b, ps), (bm, ms), (bc, ys)] W → (∀ x ∈ ([(b0, c0), (b, ps), (bm, ms), (bc, ys)] : List (Nat × Array Value)), x.1 ≠ bBB) → w.heap.size ≤ bBB → Below w.heap.size w W → K { tmps := #[.agg c0, .int .i32 a1, .pointer (some ⟨b0, 0, none⟩), undef, .bool false, .bool true, .pointer (some ⟨bx, 0, none⟩), .pointer (some ⟨b, 0, none⟩), .pointer (some ⟨bm, 0, none⟩), .pointer (some ⟨bc, 0, none⟩), .pointer (some ⟨bBB, 0, none⟩), undef, undef, .bool true, .pointer (some ⟨bx, 1, none⟩), .agg c0, .agg f1, .agg xs, .agg f2, .agg f3, .agg ps, .agg c0, .agg ms, .int .i32 a1, .int .i64 a1, .pointer (some ⟨bc, 0, none⟩), .agg c0, .agg d1, .agg ys, .agg d2, .agg d3, .agg d4, undef, undef, undef, undef, undef, undef, undef, undef, undef, undef, undef, undef, undef, undef, undef, undef, undef, undef, undef, undef, undef, undef, undef, undef, undef, undef, undef, undef, undef, undef, undef, undef, undef, undef, undef, undef, undef, undef, undef], defers := [] } W := ?tlB; ?mainB
    case mainB =>
      refine region_calm ?_
      refine wp_region_any (by kernel_rfl) ?_
      change wpAny _ _ _ _ _ _ _ (World.drew w5)
      rw [HQ0.out]
      refine wpAny_of_held (S := Sx [(b0, c0), (b, ps), (bm, ms), (bc, ys)]) _ _ _ _ ?_
      refine wpAnyH_take (i := 0) (v := .agg c0) rfl (by kernel_rfl) (by kernel_rfl) (by kernel_rfl) (fun _ _ _ h => h) (Or.inl ⟨by rfl, ?y0ldB⟩) HSA.out ?r0ldB
      case y0ldB => (intro w' hSw; exact exec_load (.tmp 2) (by rfl) b0 c0 (by rfl) (hSw (b0, c0) (by simp)) (poly_sized HP0.out))
      simp only [List.getElem_toArray, List.getElem_cons_succ, List.getElem_cons_zero, Act.put, List.setIfInBounds_toArray, List.set_cons_zero, List.set_cons_succ]
      refine wpAnyH_take (i := 2) (v := .agg ys) rfl (by kernel_rfl) (by kernel_rfl) (by kernel_rfl) (fun _ _ _ h => h) (Or.inl ⟨by rfl, ?y2ldB⟩) HSA.out ?r2ldB
      case y2ldB => (intro w' hSw; exact exec_load (.tmp 9) (by rfl) bc ys (by rfl) (hSw (bc, ys) (by simp)) (poly_sized HY.out))
      simp only [List.getElem_toArray, List.getElem_cons_succ, List.getElem_cons_zero, Act.put, List.setIfInBounds_toArray, List.set_cons_zero, List.set_cons_succ]
      refine wpAnyH_ready (rs := [1, 6]) (by kernel_rfl) (by simp) ?_
      refine AllReadyH.cons rfl (fun K' hK => ?_) (AllReadyH.cons rfl (fun K' hK => ?_) AllReadyH.nil)
      · skip
        simp only [List.getElem_toArray, List.getElem_cons_succ, List.getElem_cons_zero]
        go_simp
        refine (ntt_any c0 x0 _ HP0.out HF0.out).mono ?_
        rintro e' q1 ⟨d1, rfl, h, hB⟩
        have HSq1 := Lib.hid (sx_below HSA.out hB)
        have HBq1 := Lib.hid (HBA.out.trans (hB.mono HBA.out.size))
        clear hB
        have H1 := Lib.hid h
        clear h
        refine hK.out _ _ HSq1.out (fun _ => ?_)
        clear hK K'
        try simp only [List.getElem_toArray, List.getElem_cons_succ, List.getElem_cons_zero, Act.put, List.setIfInBounds_toArray, List.set_cons_zero, List.set_cons_succ]
        refine wpAnyH_ready (rs := [3, 6]) (by kernel_rfl) (by simp) ?_
        refine AllReadyH.cons rfl (fun K' hK => ?_) (AllReadyH.cons rfl (fun K' hK => ?_) AllReadyH.nil)
        · skip
          simp only [List.getElem_toArray, List.getElem_cons_succ, List.getElem_cons_zero]
          go_simp
          refine (ntt_any ys _ _ HY.out (unit_fits 0 a1 (by omega))).mono ?_
          rintro e' q2 ⟨d2, rfl, h, hB⟩
          have HSq2 := Lib.hid (sx_below HSq1.out hB)
          have HBq2 := Lib.hid (HBq1.out.trans (hB.mono HBq1.out.size))
          clear hB
          have H2 := Lib.hid h
          clear h
          refine hK.out _ _ HSq2.out (fun _ => ?_)
          clear hK K'
          try simp only [List.getElem_toArray, List.getElem_cons_succ, List.getElem_cons_zero, Act.put, List.setIfInBounds_toArray, List.set_cons_zero, List.set_cons_succ]
          refine wpAnyH_ready (rs := [4, 6]) (by kernel_rfl) (by simp) ?_
          refine AllReadyH.cons rfl (fun K' hK => ?_) (AllReadyH.cons rfl (fun K' hK => ?_) AllReadyH.nil)
          · skip
            simp only [List.getElem_toArray, List.getElem_cons_succ, List.getElem_cons_zero]
            go_simp
            refine (tim_any d1 d2 _ _ _ H1.out H2.out (fits_up _) (fits_up _)).mono ?_
            rintro e' q3 ⟨d3, rfl, h, hB⟩
            have HSq3 := Lib.hid (sx_below HSq2.out hB)
            have HBq3 := Lib.hid (HBq2.out.trans (hB.mono HBq2.out.size))
            clear hB
            rw [redp_up, redp_up] at h
            have H3 := Lib.hid h
            clear h
            refine hK.out _ _ HSq3.out (fun _ => ?_)
            clear hK K'
            try simp only [List.getElem_toArray, List.getElem_cons_succ, List.getElem_cons_zero, Act.put, List.setIfInBounds_toArray, List.set_cons_zero, List.set_cons_succ]
            refine wpAnyH_ready (rs := [5, 6]) (by kernel_rfl) (by simp) ?_
            refine AllReadyH.cons rfl (fun K' hK => ?_) (AllReadyH.cons rfl (fun K' hK => ?_) AllReadyH.nil)
            · skip
              simp only [List.getElem_toArray, List.getElem_cons_succ, List.getElem_cons_zero]
              go_simp
              refine (inv_any d3 _ _ H3.out (fits_up _)).mono ?_
              rintro e' q4 ⟨d4, rfl, h, hB⟩
              have HSq4 := Lib.hid (sx_below HSq3.out hB)
              have HBq4 := Lib.hid (HBq3.out.trans (hB.mono HBq3.out.size))
              clear hB
              rw [redp_up] at h
              have H4 := Lib.hid (h.eqv (scalar_is (redp x0) a1))
              clear h
              refine hK.out _ _ HSq4.out (fun _ => ?_)
              clear hK K'
              try simp only [List.getElem_toArray, List.getElem_cons_succ, List.getElem_cons_zero, Act.put, List.setIfInBounds_toArray, List.set_cons_zero, List.set_cons_succ]
              refine wpAnyH_ready (rs := [6]) (by kernel_rfl) (by simp) ?_
              refine AllReadyH.cons rfl (fun K' hK => ?_) AllReadyH.nil
              simp only [List.getElem_toArray, List.getElem_cons_succ, List.getElem_cons_zero]
              go_simp
              have HSp5 := Lib.hid (sx_alloc HSq4.out (.cells Z 23))
              have HBp5 := Lib.hid (HBq4.out.alloc HBq4.out.size (.cells Z 23))
              have HNp5 := Lib.hid (sx_ne HSq4.out)
              have HLp5 := Lib.hid HBq4.out.size
              have HKp5 := Lib.hid (heap_alloc_last q4 (.cells Z 23))
              have hlp5 := Lib.hid (Array.getElem?_eq_some_iff.1 HKp5.out).1
              refine hK.out _ _ HSp5.out (fun _ => ?_)
              clear hK K'
              try simp only [List.getElem_toArray, List.getElem_cons_succ, List.getElem_cons_zero, Act.put, List.setIfInBounds_toArray, List.set_cons_zero, List.set_cons_succ]
              refine wpAnyH_ready (rs := [7]) (by kernel_rfl) (by simp) ?_
              refine AllReadyH.cons rfl (fun K' hK => ?_) AllReadyH.nil
              simp only [List.getElem_toArray, List.getElem_cons_succ, List.getElem_cons_zero]
              refine step_of (by rfl) (wp_store_row 23 (.tmp 10) (.tmp 31) rfl _ d4 rfl rfl 23 Z HKp5.out (poly_sized H4.out) (by rw [HZ.out.1, H4.out.1]) H4.out.cells (hK.out _ _ (sx_setRow HSp5.out HNp5.out d4) (fun _ => ?_)))
              clear hK K'
              try simp only [List.getElem_toArray, List.getElem_cons_succ, List.getElem_cons_zero, Act.put, List.setIfInBounds_toArray, List.set_cons_zero, List.set_cons_succ]
              refine wpAnyH_done (by kernel_rfl) ?_ _
              exact TLB _ d1 d2 d3 d4 _ H4.out (setRow_heap _ _ _ _ _ _ HKp5.out) (sx_setRow HSp5.out HNp5.out d4) HNp5.out HLp5.out (below_setRow HBp5.out HLp5.out d4)
            · skip
              simp only [List.getElem_toArray, List.getElem_cons_succ, List.getElem_cons_zero]
              go_simp
              have HSp6 := Lib.hid (sx_alloc HSq3.out (.cells Z 23))
              have HBp6 := Lib.hid (HBq3.out.alloc HBq3.out.size (.cells Z 23))
              have HNp6 := Lib.hid (sx_ne HSq3.out)
              have HLp6 := Lib.hid HBq3.out.size
              have HKp6 := Lib.hid (heap_alloc_last q3 (.cells Z 23))
              have hlp6 := Lib.hid (Array.getElem?_eq_some_iff.1 HKp6.out).1
              refine hK.out _ _ HSp6.out (fun _ => ?_)
              clear hK K'
              try simp only [List.getElem_toArray, List.getElem_cons_succ, List.getElem_cons_zero, Act.put, List.setIfInBounds_toArray, List.set_cons_zero, List.set_cons_succ]
              refine wpAnyH_ready (rs := [5]) (by kernel_rfl) (by simp) ?_
              refine AllReadyH.cons rfl (fun K' hK => ?_) AllReadyH.nil
              simp only [List.getElem_toArray, List.getElem_cons_succ, List.getElem_cons_zero]
              go_simp
              refine (inv_any d3 _ _ H3.out (fits_up _)).mono ?_
              rintro e' q7 ⟨d4, rfl, h, hB⟩
              have HSq7 := Lib.hid (sx_below HSp6.out hB)
              have HBq7 := Lib.hid (HBp6.out.trans (hB.mono HBp6.out.size))
              have HKq7 := Lib.hid ((hB.block _ hlp6.out).trans HKp6.out)
              have hlq7 := Lib.hid (Nat.lt_of_lt_of_le hlp6.out hB.size)
              clear hB
              rw [redp_up] at h
              have H4 := Lib.hid (h.eqv (scalar_is (redp x0) a1))
              clear h
              refine hK.out _ _ HSq7.out (fun _ => ?_)
              clear hK K'
              try simp only [List.getElem_toArray, List.getElem_cons_succ, List.getElem_cons_zero, Act.put, List.setIfInBounds_toArray, List.set_cons_zero, List.set_cons_succ]
              refine wpAnyH_ready (rs := [7]) (by kernel_rfl) (by simp) ?_
              refine AllReadyH.cons rfl (fun K' hK => ?_) AllReadyH.nil
              simp only [List.getElem_toArray, List.getElem_cons_succ, List.getElem_cons_zero]
              refine step_of (by rfl) (wp_store_row 23 (.tmp 10) (.tmp 31) rfl _ d4 rfl rfl 23 Z HKq7.out (poly_sized H4.out) (by rw [HZ.out.1, H4.out.1]) H4.out.cells (hK.out _ _ (sx_setRow HSq7.out HNp6.out d4) (fun _ => ?_)))
              clear hK K'
              try simp only [List.getElem_toArray, List.getElem_cons_succ, List.getElem_cons_zero, Act.put, List.setIfInBounds_toArray, List.set_cons_zero, List.set_cons_succ]
              refine wpAnyH_done (by kernel_rfl) ?_ _
              exact TLB _ d1 d2 d3 d4 _ H4.out (setRow_heap _ _ _ _ _ _ HKq7.out) (sx_setRow HSq7.out HNp6.out d4) HNp6.out HLp6.out (below_setRow HBq7.out HLp6.out d4)
          · skip
            simp only [List.getElem_toArray, List.getElem_cons_succ, List.getElem_cons_zero]
            go_simp
            have HSp8 := Lib.hid (sx_alloc HSq2.out (.cells Z 23))
            have HBp8 := Lib.hid (HBq2.out.alloc HBq2.out.size (.cells Z 23))
            have HNp8 := Lib.hid (sx_ne HSq2.out)
            have HLp8 := Lib.hid HBq2.out.size
            have HKp8 := Lib.hid (heap_alloc_last q2 (.cells Z 23))
            have hlp8 := Lib.hid (Array.getElem?_eq_some_iff.1 HKp8.out).1
            refine hK.out _ _ HSp8.out (fun _ => ?_)
            clear hK K'
            try simp only [List.getElem_toArray, List.getElem_cons_succ, List.getElem_cons_zero, Act.put, List.setIfInBounds_toArray, List.set_cons_zero, List.set_cons_succ]
            refine wpAnyH_ready (rs := [4]) (by kernel_rfl) (by simp) ?_
            refine AllReadyH.cons rfl (fun K' hK => ?_) AllReadyH.nil
            simp only [List.getElem_toArray, List.getElem_cons_succ, List.getElem_cons_zero]
            go_simp
            refine (tim_any d1 d2 _ _ _ H1.out H2.out (fits_up _) (fits_up _)).mono ?_
            rintro e' q9 ⟨d3, rfl, h, hB⟩
            have HSq9 := Lib.hid (sx_below HSp8.out hB)
            have HBq9 := Lib.hid (HBp8.out.trans (hB.mono HBp8.out.size))
            have HKq9 := Lib.hid ((hB.block _ hlp8.out).trans HKp8.out)
            have hlq9 := Lib.hid (Nat.lt_of_lt_of_le hlp8.out hB.size)
            clear hB
            rw [redp_up, redp_up] at h
            have H3 := Lib.hid h
            clear h
            refine hK.out _ _ HSq9.out (fun _ => ?_)
            clear hK K'
            try simp only [List.getElem_toArray, List.getElem_cons_succ, List.getElem_cons_zero, Act.put, List.setIfInBounds_toArray, List.set_cons_zero, List.set_cons_succ]
            refine wpAnyH_ready (rs := [5]) (by kernel_rfl) (by simp) ?_
            refine AllReadyH.cons rfl (fun K' hK => ?_) AllReadyH.nil
            simp only [List.getElem_toArray, List.getElem_cons_succ, List.getElem_cons_zero]
            go_simp
            refine (inv_any d3 _ _ H3.out (fits_up _)).mono ?_
            rintro e' q10 ⟨d4, rfl, h, hB⟩
            have HSq10 := Lib.hid (sx_below HSq9.out hB)
            have HBq10 := Lib.hid (HBq9.out.trans (hB.mono HBq9.out.size))
            have HKq10 := Lib.hid ((hB.block _ hlq9.out).trans HKq9.out)
            have hlq10 := Lib.hid (Nat.lt_of_lt_of_le hlq9.out hB.size)
            clear hB
            rw [redp_up] at h
            have H4 := Lib.hid (h.eqv (scalar_is (redp x0) a1))
            clear h
            refine hK.out _ _ HSq10.out (fun _ => ?_)
            clear hK K'
            try simp only [List.getElem_toArray, List.getElem_cons_succ, List.getElem_cons_zero, Act.put, List.setIfInBounds_toArray, List.set_cons_zero, List.set_cons_succ]
            refine wpAnyH_ready (rs := [7]) (by kernel_rfl) (by simp) ?_
            refine AllReadyH.cons rfl (fun K' hK => ?_) AllReadyH.nil
            simp only [List.getElem_toArray, List.getElem_cons_succ, List.getElem_cons_zero]
            refine step_of (by rfl) (wp_store_row 23 (.tmp 10) (.tmp 31) rfl _ d4 rfl rfl 23 Z HKq10.out (poly_sized H4.out) (by rw [HZ.out.1, H4.out.1]) H4.out.cells (hK.out _ _ (sx_setRow HSq10.out HNp8.out d4) (fun _ => ?_)))
            clear hK K'
            try simp only [List.getElem_toArray, List.getElem_cons_succ, List.getElem_cons_zero, Act.put, List.setIfInBounds_toArray, List.set_cons_zero, List.set_cons_succ]
            refine wpAnyH_done (by kernel_rfl) ?_ _
            exact TLB _ d1 d2 d3 d4 _ H4.out (setRow_heap _ _ _ _ _ _ HKq10.out) (sx_setRow HSq10.out HNp8.out d4) HNp8.out HLp8.out (below_setRow HBq10.out HLp8.out d4)
        · skip
          simp only [List.getElem_toArray, List.getElem_cons_succ, List.getElem_cons_zero]
          go_simp
          have HSp11 := Lib.hid (sx_alloc HSq1.out (.cells Z 23))
          have HBp11 := Lib.hid (HBq1.out.alloc HBq1.out.size (.cells Z 23))
          have HNp11 := Lib.hid (sx_ne HSq1.out)
          have HLp11 := Lib.hid HBq1.out.size
          have HKp11 := Lib.hid (heap_alloc_last q1 (.cells Z 23))
          have hlp11 := Lib.hid (Array.getElem?_eq_some_iff.1 HKp11.out).1
          refine hK.out _ _ HSp11.out (fun _ => ?_)
          clear hK K'
          try simp only [List.getElem_toArray, List.getElem_cons_succ, List.getElem_cons_zero, Act.put, List.setIfInBounds_toArray, List.set_cons_zero, List.set_cons_succ]
          refine wpAnyH_ready (rs := [3]) (by kernel_rfl) (by simp) ?_
          refine AllReadyH.cons rfl (fun K' hK => ?_) AllReadyH.nil
          simp only [List.getElem_toArray, List.getElem_cons_succ, List.getElem_cons_zero]
          go_simp
          refine (ntt_any ys _ _ HY.out (unit_fits 0 a1 (by omega))).mono ?_
          rintro e' q12 ⟨d2, rfl, h, hB⟩
          have HSq12 := Lib.hid (sx_below HSp11.out hB)
          have HBq12 := Lib.hid (HBp11.out.trans (hB.mono HBp11.out.size))
          have HKq12 := Lib.hid ((hB.block _ hlp11.out).trans HKp11.out)
          have hlq12 := Lib.hid (Nat.lt_of_lt_of_le hlp11.out hB.size)
          clear hB
          have H2 := Lib.hid h
          clear h
          refine hK.out _ _ HSq12.out (fun _ => ?_)
          clear hK K'
          try simp only [List.getElem_toArray, List.getElem_cons_succ, List.getElem_cons_zero, Act.put, List.setIfInBounds_toArray, List.set_cons_zero, List.set_cons_succ]
          refine wpAnyH_ready (rs := [4]) (by kernel_rfl) (by simp) ?_
          refine AllReadyH.cons rfl (fun K' hK => ?_) AllReadyH.nil
          simp only [List.getElem_toArray, List.getElem_cons_succ, List.getElem_cons_zero]
          go_simp
          refine (tim_any d1 d2 _ _ _ H1.out H2.out (fits_up _) (fits_up _)).mono ?_
          rintro e' q13 ⟨d3, rfl, h, hB⟩
          have HSq13 := Lib.hid (sx_below HSq12.out hB)
          have HBq13 := Lib.hid (HBq12.out.trans (hB.mono HBq12.out.size))
          have HKq13 := Lib.hid ((hB.block _ hlq12.out).trans HKq12.out)
          have hlq13 := Lib.hid (Nat.lt_of_lt_of_le hlq12.out hB.size)
          clear hB
          rw [redp_up, redp_up] at h
          have H3 := Lib.hid h
          clear h
          refine hK.out _ _ HSq13.out (fun _ => ?_)
          clear hK K'
          try simp only [List.getElem_toArray, List.getElem_cons_succ, List.getElem_cons_zero, Act.put, List.setIfInBounds_toArray, List.set_cons_zero, List.set_cons_succ]
          refine wpAnyH_ready (rs := [5]) (by kernel_rfl) (by simp) ?_
          refine AllReadyH.cons rfl (fun K' hK => ?_) AllReadyH.nil
          simp only [List.getElem_toArray, List.getElem_cons_succ, List.getElem_cons_zero]
          go_simp
          refine (inv_any d3 _ _ H3.out (fits_up _)).mono ?_
          rintro e' q14 ⟨d4, rfl, h, hB⟩
          have HSq14 := Lib.hid (sx_below HSq13.out hB)
          have HBq14 := Lib.hid (HBq13.out.trans (hB.mono HBq13.out.size))
          have HKq14 := Lib.hid ((hB.block _ hlq13.out).trans HKq13.out)
          have hlq14 := Lib.hid (Nat.lt_of_lt_of_le hlq13.out hB.size)
          clear hB
          rw [redp_up] at h
          have H4 := Lib.hid (h.eqv (scalar_is (redp x0) a1))
          clear h
          refine hK.out _ _ HSq14.out (fun _ => ?_)
          clear hK K'
          try simp only [List.getElem_toArray, List.getElem_cons_succ, List.getElem_cons_zero, Act.put, List.setIfInBounds_toArray, List.set_cons_zero, List.set_cons_succ]
          refine wpAnyH_ready (rs := [7]) (by kernel_rfl) (by simp) ?_
          refine AllReadyH.cons rfl (fun K' hK => ?_) AllReadyH.nil
          simp only [List.getElem_toArray, List.getElem_cons_succ, List.getElem_cons_zero]
          refine step_of (by rfl) (wp_store_row 23 (.tmp 10) (.tmp 31) rfl _ d4 rfl rfl 23 Z HKq14.out (poly_sized H4.out) (by rw [HZ.out.1, H4.out.1]) H4.out.cells (hK.out _ _ (sx_setRow HSq14.out HNp11.out d4) (fun _ => ?_)))
          clear hK K'
          try simp only [List.getElem_toArray, List.getElem_cons_succ, List.getElem_cons_zero, Act.put, List.setIfInBounds_toArray, List.set_cons_zero, List.set_cons_succ]
          refine wpAnyH_done (by kernel_rfl) ?_ _
          exact TLB _ d1 d2 d3 d4 _ H4.out (setRow_heap _ _ _ _ _ _ HKq14.out) (sx_setRow HSq14.out HNp11.out d4) HNp11.out HLp11.out (below_setRow HBq14.out HLp11.out d4)
      · skip
        simp only [List.getElem_toArray, List.getElem_cons_succ, List.getElem_cons_zero]
        go_simp
        have HSp15 := Lib.hid (sx_alloc HSA.out (.cells Z 23))
        have HBp15 := Lib.hid (HBA.out.alloc HBA.out.size (.cells Z 23))
        have HNp15 := Lib.hid (sx_ne HSA.out)
        have HLp15 := Lib.hid HBA.out.size
        have HKp15 := Lib.hid (heap_alloc_last q0 (.cells Z 23))
        have hlp15 := Lib.hid (Array.getElem?_eq_some_iff.1 HKp15.out).1
        refine hK.out _ _ HSp15.out (fun _ => ?_)
        clear hK K'
        try simp only [List.getElem_toArray, List.getElem_cons_succ, List.getElem_cons_zero, Act.put, List.setIfInBounds_toArray, List.set_cons_zero, List.set_cons_succ]
        refine wpAnyH_ready (rs := [1]) (by kernel_rfl) (by simp) ?_
        refine AllReadyH.cons rfl (fun K' hK => ?_) AllReadyH.nil
        simp only [List.getElem_toArray, List.getElem_cons_succ, List.getElem_cons_zero]
        go_simp
        refine (ntt_any c0 x0 _ HP0.out HF0.out).mono ?_
        rintro e' q16 ⟨d1, rfl, h, hB⟩
        have HSq16 := Lib.hid (sx_below HSp15.out hB)
        have HBq16 := Lib.hid (HBp15.out.trans (hB.mono HBp15.out.size))
        have HKq16 := Lib.hid ((hB.block _ hlp15.out).trans HKp15.out)
        have hlq16 := Lib.hid (Nat.lt_of_lt_of_le hlp15.out hB.size)
        clear hB
        have H1 := Lib.hid h
        clear h
        refine hK.out _ _ HSq16.out (fun _ => ?_)
        clear hK K'
        try simp only [List.getElem_toArray, List.getElem_cons_succ, List.getElem_cons_zero, Act.put, List.setIfInBounds_toArray, List.set_cons_zero, List.set_cons_succ]
        refine wpAnyH_ready (rs := [3]) (by kernel_rfl) (by simp) ?_
        refine AllReadyH.cons rfl (fun K' hK => ?_) AllReadyH.nil
        simp only [List.getElem_toArray, List.getElem_cons_succ, List.getElem_cons_zero]
        go_simp
        refine (ntt_any ys _ _ HY.out (unit_fits 0 a1 (by omega))).mono ?_
        rintro e' q17 ⟨d2, rfl, h, hB⟩
        have HSq17 := Lib.hid (sx_below HSq16.out hB)
        have HBq17 := Lib.hid (HBq16.out.trans (hB.mono HBq16.out.size))
        have HKq17 := Lib.hid ((hB.block _ hlq16.out).trans HKq16.out)
        have hlq17 := Lib.hid (Nat.lt_of_lt_of_le hlq16.out hB.size)
        clear hB
        have H2 := Lib.hid h
        clear h
        refine hK.out _ _ HSq17.out (fun _ => ?_)
        clear hK K'
        try simp only [List.getElem_toArray, List.getElem_cons_succ, List.getElem_cons_zero, Act.put, List.setIfInBounds_toArray, List.set_cons_zero, List.set_cons_succ]
        refine wpAnyH_ready (rs := [4]) (by kernel_rfl) (by simp) ?_
        refine AllReadyH.cons rfl (fun K' hK => ?_) AllReadyH.nil
        simp only [List.getElem_toArray, List.getElem_cons_succ, List.getElem_cons_zero]
        go_simp
        refine (tim_any d1 d2 _ _ _ H1.out H2.out (fits_up _) (fits_up _)).mono ?_
        rintro e' q18 ⟨d3, rfl, h, hB⟩
        have HSq18 := Lib.hid (sx_below HSq17.out hB)
        have HBq18 := Lib.hid (HBq17.out.trans (hB.mono HBq17.out.size))
        have HKq18 := Lib.hid ((hB.block _ hlq17.out).trans HKq17.out)
        have hlq18 := Lib.hid (Nat.lt_of_lt_of_le hlq17.out hB.size)
        clear hB
        rw [redp_up, redp_up] at h
        have H3 := Lib.hid h
        clear h
        refine hK.out _ _ HSq18.out (fun _ => ?_)
        clear hK K'
        try simp only [List.getElem_toArray, List.getElem_cons_succ, List.getElem_cons_zero, Act.put, List.setIfInBounds_toArray, List.set_cons_zero, List.set_cons_succ]
        refine wpAnyH_ready (rs := [5]) (by kernel_rfl) (by simp) ?_
        refine AllReadyH.cons rfl (fun K' hK => ?_) AllReadyH.nil
        simp only [List.getElem_toArray, List.getElem_cons_succ, List.getElem_cons_zero]
        go_simp
        refine (inv_any d3 _ _ H3.out (fits_up _)).mono ?_
        rintro e' q19 ⟨d4, rfl, h, hB⟩
        have HSq19 := Lib.hid (sx_below HSq18.out hB)
        have HBq19 := Lib.hid (HBq18.out.trans (hB.mono HBq18.out.size))
        have HKq19 := Lib.hid ((hB.block _ hlq18.out).trans HKq18.out)
        have hlq19 := Lib.hid (Nat.lt_of_lt_of_le hlq18.out hB.size)
        clear hB
        rw [redp_up] at h
        have H4 := Lib.hid (h.eqv (scalar_is (redp x0) a1))
        clear h
        refine hK.out _ _ HSq19.out (fun _ => ?_)
        clear hK K'
        try simp only [List.getElem_toArray, List.getElem_cons_succ, List.getElem_cons_zero, Act.put, List.setIfInBounds_toArray, List.set_cons_zero, List.set_cons_succ]
        refine wpAnyH_ready (rs := [7]) (by kernel_rfl) (by simp) ?_
        refine AllReadyH.cons rfl (fun K' hK => ?_) AllReadyH.nil
        simp only [List.getElem_toArray, List.getElem_cons_succ, List.getElem_cons_zero]
        refine step_of (by rfl) (wp_store_row 23 (.tmp 10) (.tmp 31) rfl _ d4 rfl rfl 23 Z HKq19.out (poly_sized H4.out) (by rw [HZ.out.1, H4.out.1]) H4.out.cells (hK.out _ _ (sx_setRow HSq19.out HNp15.out d4) (fun _ => ?_)))
        clear hK K'
        try simp only [List.getElem_toArray, List.getElem_cons_succ, List.getElem_cons_zero, Act.put, List.setIfInBounds_toArray, List.set_cons_zero, List.set_cons_succ]
        refine wpAnyH_done (by kernel_rfl) ?_ _
        exact TLB _ d1 d2 d3 d4 _ H4.out (setRow_heap _ _ _ _ _ _ HKq19.out) (sx_setRow HSq19.out HNp15.out d4) HNp15.out HLp15.out (below_setRow HBq19.out HLp15.out d4)
    case tlB =>
      intro b2 e1 e2 e3 ss W2 hD hb hS hN hlo hB
      refine ha2 _ _ ?_
      have HD2 := Lib.hid hD; have HRS := Lib.hid hb; have HRB := Lib.hid (hS (b, ps) (by simp)); have HRM := Lib.hid (hS (bm, ms) (by simp)); have HRY := Lib.hid (hS (bc, ys) (by simp)); have HBW := Lib.hid hB
      clear hD hb hS hlo hB hN
      go_wp2_with (refine wpList_load_row rfl 23 (.tmp 9) rfl bc rfl 23 ys (0, 0) _ HRY.out Try.underlying23 rfl (poly_sized HY.out) ?_)
      refine (mod_any ys _ _ HY.out (unit_fits 0 a1 (by omega))).mono ?_
      rintro e' w6 ⟨ks, rfl, hk, hB⟩
      have HRM := Lib.hid (row_of ((hB.block bm (Array.getElem?_eq_some_iff.1 HRM.out).1).trans HRM.out) HM.out)
      have HRB := Lib.hid (row_of ((hB.block b (Array.getElem?_eq_some_iff.1 HRB.out).1).trans HRB.out) HD.out)
      have HRS := Lib.hid (row_of ((hB.block b2 (Array.getElem?_eq_some_iff.1 HRS.out).1).trans HRS.out) HD2.out)
      have HB6 := Lib.hid (HBW.out.trans (hB.mono HBW.out.size))
      have hix := run_index_one (P := Try.prog) 23 3 256 _ ks .i64 0 _ Try.underlying23 Try.underlying3 rfl (by kernel_rfl) (by omega) (hk.2 0 (by omega))
      rw [up_at, show redp (unitAt 0 a1) 0 = red a1 from rfl] at hix
      have hix : ∀ w, (Instr.index 23 (.agg ks) (.int .i64 0)).run Try.prog w = .ok (.int .i64 (nv (red a1))) w := hix
      obtain ⟨z, hzz⟩ : ∃ z, red a1 = z := ⟨_, rfl⟩
      rw [hzz] at hix HRS
      have k0 := HRB.out.cell (i := 0) (by omega)
      have k1 := HRM.out.cell (i := 255) (by omega)
      unfold ints at k0 k1
      rw [up_at] at k0 k1
      rw [shX_at _ _ (by omega), if_pos rfl, nv_neg] at k0
      obtain ⟨y, hy⟩ : ∃ y, nv (redp x0 255) = y := ⟨_, rfl⟩
      have y1 : 0 ≤ y := by rw [← hy]; exact nv_lo _
      have y2 : y < 8380417 := by rw [← hy]; exact nv_hi _
      rw [hy] at k0 k1
      clear hk hB HBW HRY hzz hy
      go_wp2
      clear hix hz k0 k1 y1 y2
      go_loopw [12] (fun i W => ∃ j : Nat, j ≤ 256 ∧ i = .int .i64 (j : Int) ∧ Hid (W.rowIs b 23 256 (ints (up (shX (redp x0))))) ∧ Hid (W.rowIs bm 23 256 (ints (up (redp x0)))) ∧ Hid (W.rowIs b2 23 256 (ints (up (sc z (redp x0))))) ∧ Hid (Below w.heap.size w W)) (fun i _ => 256 - (intOf i).toNat)
      case atStart => exact ⟨0, by omega, rfl, HRB, HRM, HRS, HB6⟩
      case round =>
        clear HRB HRM HRS HB6
        obtain ⟨j, hj, rfl, HRB, HRM, HRS, HB6⟩ := hrel
        by_cases hlt : j < 256
        · have k2 := HRS.out.cell (i := j) hlt
          have k3 := HRM.out.cell (i := j) hlt
          unfold ints at k2 k3
          rw [up_at] at k2 k3
          rw [show sc z (redp x0) j = z * redp x0 j from rfl, nv_mul] at k2
          obtain ⟨y, hy⟩ : ∃ y, redp x0 j = y := ⟨_, rfl⟩
          rw [hy] at k2 k3
          clear hy
          have m1 := mul_bd y z
          have q2 : (nv y * nv z).tmod 8380417 = nv y * nv z % 8380417 := Int.tmod_eq_emod_of_nonneg m1.1
          obtain ⟨v, hv⟩ : ∃ v, nv y = v := ⟨_, rfl⟩
          obtain ⟨u, hu⟩ : ∃ u, nv z = u := ⟨_, rfl⟩
          rw [hv, hu] at m1 q2 k2
          rw [hv] at k3
          rw [hu]
          have HU := Lib.hid hu
          clear hv hu
          obtain ⟨p, hp⟩ : ∃ p, v * u = p := ⟨_, rfl⟩
          have q1 : IntKind.i64.wrap (v * u) = p := by rw [hp]; rw [hp] at m1; exact IntWalk.i64_in _ (by omega)
          rw [hp] at q2 k2 m1
          clear hp
          obtain ⟨r, hr⟩ : ∃ r, p % 8380417 = r := ⟨_, rfl⟩
          rw [hr] at q2 k2
          have r1 : 0 ≤ r ∧ r < 8380417 := by omega
          obtain ⟨r1, r2⟩ := r1
          clear hr m1
          have q3 : IntKind.i64.wrap r = r := IntWalk.i64_in _ (by omega)
          have i0 : (0 : Int) ≤ (j : Int) := by omega
          have i1 : (j : Int) < 256 := by omega
          have hd : decide ((j : Int) < 256) = true := decide_eq_true (by omega)
          by_cases hj0 : j = 0
          · subst hj0
            have hd0 : decide (((0 : Nat) : Int) > 0) = false := by decide
            go_wp2
            go_region
            go_wp2
            go_roundw
            case rel => exact ⟨0 + 1, by omega, by go_num, HRB.out.drew, HRM.out.drew, HRS.out.drew, HB6.out.drew⟩
            case measure => simp [intOf]
          · obtain ⟨i, rfl⟩ : ∃ i, j = i + 1 := ⟨j - 1, by omega⟩
            have k0 := HRB.out.cell (i := i + 1) (by omega)
            have k1 := HRM.out.cell (i := i) (by omega)
            unfold ints at k0 k1
            rw [up_at] at k0 k1
            rw [shX_at _ _ (by omega), if_neg (by omega), show i + 1 - 1 = i by omega] at k0
            obtain ⟨t, ht⟩ : ∃ t, nv (redp x0 i) = t := ⟨_, rfl⟩
            rw [ht] at k0 k1
            clear ht
            have i2 : ((i + 1 : Nat) : Int) - 1 = (i : Int) := by omega
            have i3 : IntKind.i64.wrap (i : Int) = (i : Int) := IntWalk.i64_in _ (by omega)
            have i4 : (i : Int) < 256 := by omega
            have hd0 : decide (((i + 1 : Nat) : Int) > 0) = true := decide_eq_true (by omega)
            go_wp2
            go_region
            go_wp2
            go_roundw
            case rel => exact ⟨i + 1 + 1, by omega, by go_num, HRB.out.drew, HRM.out.drew, HRS.out.drew, HB6.out.drew⟩
            case measure => simp [intOf]; omega
        · obtain rfl : j = 256 := by omega
          go_wp2
          go_ret
          exact ⟨rfl, HB6.out⟩
end Go.Proofs.Ytaihlmedeebimaa.Lg
