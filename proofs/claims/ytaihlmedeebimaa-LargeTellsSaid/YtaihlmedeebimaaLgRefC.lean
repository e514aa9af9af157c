/- Walks of the document's own: Times, Centred, Size. -/
import Derived.Test.YtaihlmedeebimaaLgRefB
namespace Go.Proofs.Ytaihlmedeebimaa.Lg
open Go.RowKit
set_option linter.all false

def partv (x : Nat → Int) (p : Nat → Int) (k : Nat) : Nat → Int := fun i => if i < k then x i else p i
theorem partv_succ {w : World} {b k : Nat} {t : TypeId} {x : Nat → Int} {p : Nat → Int} {v : Int} (hv : x k = v) (h : w.rowIs b t 256 (ints (partv x p k))) : (w.setCell ⟨b, k, none⟩ (.int .i64 v)).rowIs b t 256 (ints (partv x p (k + 1))) :=
  row_is (row_set h k _) fun i _ => by
    unfold partv
    by_cases e : i = k
    · subst e; rw [if_pos rfl, if_pos (by omega), hv]
    · rw [if_neg e]
      by_cases h : i < k
      · rw [if_pos h, if_pos (by omega)]
      · rw [if_neg h, if_neg (by omega)]
theorem partv_zero {cs : Array Value} {p : Nat → Int} (h : IsP cs p) (x : Nat → Int) : IsP cs (partv x p 0) := h.congr fun i _ => by unfold partv; rw [if_neg (by omega)]
theorem partv_all {cs : Array Value} {x : Nat → Int} {p : Nat → Int} (h : IsP cs (partv x p 256)) : IsP cs x := h.congr fun i hi => by unfold partv; rw [if_pos hi]
theorem partv_at (x : Nat → Int) (p : Nat → Int) (k : Nat) : partv x p k k = p k := by unfold partv; rw [if_neg (by omega)]

set_option maxHeartbeats 2000000 in
set_option maxRecDepth 100000 in
theorem rtim_any (cs es : Array Value) (p q : Nat → Int) (w : World) (hP : IsP cs p) (hQ : IsP es q) (hFp : Fits p) (hFq : Fits q) :
    Calls Try.prog 21 #[.agg cs, .agg es] w fun e w' => ∃ ds, e = .returned (.agg ds) ∧ IsP ds (up (tim (redp p) (redp q))) ∧ Below w.heap.size w w' := by
  have HP := Lib.hid hP; have HQ := Lib.hid hQ; have HFp := Lib.hid hFp; have HFq := Lib.hid hFq; clear hP hQ hFp hFq
  obtain ⟨Z, hz, hZ⟩ := zero_poly
  have HZ := Lib.hid hZ; clear hZ
  have e1 : (w.alloc (.cells cs 23)).heap.size = w.heap.size + 1 := by simp
  have e2 : ((w.alloc (.cells cs 23)).alloc (.cells es 23)).heap.size = w.heap.size + 2 := by simp
  have HRA := Lib.hid (((row_of (heap_alloc_last w (.cells cs 23)) (partv_zero HP.out (up (tim (redp p) (redp q))))).alloc (.cells es 23)).alloc (.cells Z 23))
  have r2 := (row_of (heap_alloc_last (w.alloc (.cells cs 23)) (.cells es 23)) HQ.out).alloc (.cells Z 23)
  rw [e1] at r2
  have HRB := Lib.hid r2
  have r3 := heap_alloc_last ((w.alloc (.cells cs 23)).alloc (.cells es 23)) (.cells Z 23)
  rw [e2] at r3
  have HRZ := Lib.hid r3
  have HB := Lib.hid ((((Below.refl _ _).alloc (Nat.le_refl w.heap.size) (.cells cs 23)).alloc (by simp) (.cells es 23)).alloc (by simp <;> omega) (.cells Z 23))
  clear r2 r3 e1 e2
  go_enter Try.func21, Try.ntmps21
  go_wp2
  clear hz
  go_loopw [5] (fun i W => ∃ k : Nat, k ≤ 256 ∧ i = .int .i64 k ∧ Hid (W.rowIs w.heap.size 23 256 (ints (partv (up (tim (redp p) (redp q))) p k))) ∧ Hid (W.rowIs (w.heap.size + 1) 23 256 (ints q)) ∧ Hid (W.heap[w.heap.size + 2]? = some (.cells Z 23 (0, 0))) ∧ Hid (Below w.heap.size w W)) (fun i _ => 256 - (intOf i).toNat)
  case atStart => exact ⟨0, by omega, rfl, HRA, HRB, HRZ, HB⟩
  case round =>
    clear HRA HRZ HB HRB
    obtain ⟨k, hk, rfl, HR, HRB, HZ2, HB⟩ := hrel
    by_cases hlt : k < 256
    · obtain ⟨v1, v2⟩ := HFp.out k hlt
      obtain ⟨v3, v4⟩ := HFq.out k hlt
      have d := HR.out.frozen k
      have hc := HR.out.cell hlt
      have hc' := HRB.out.cell hlt
      unfold ints at hc hc'
      rw [partv_at] at hc
      have a1 := nv_lo (redp p k); have a2 := nv_hi (redp p k); have a3 := nv_lo (redp q k); have a4 := nv_hi (redp q k)
      have hdk : decide ((k : Int) < 256) = true := decide_eq_true (by omega)
      have ht : tim (redp p) (redp q) k = redp p k * redp q k := rfl
      have HT := Lib.hid ht
      obtain ⟨x, hx⟩ : ∃ x, redp p k = x := ⟨_, rfl⟩
      obtain ⟨y, hy⟩ : ∃ y, redp q k = y := ⟨_, rfl⟩
      have HX := Lib.hid (show red (p k) = x from hx); have HY := Lib.hid (show red (q k) = y from hy)
      rw [hx, hy] at HT
      have hn := nv_lo x; clear hn hx hy a1 a2 a3 a4 ht
      have m1 := mul_bd x y
      have q1 : IntKind.i64.wrap (nv x * nv y) = nv x * nv y := IntWalk.i64_in _ (by omega)
      have q2 := mul_nv_t x y
      obtain ⟨z, hz⟩ : ∃ z, nv (x * y) = z := ⟨_, rfl⟩
      rw [hz] at q2
      have z1 : 0 ≤ z ∧ z < 8380417 := by rw [← hz]; exact ⟨nv_lo _, nv_hi _⟩
      have HZ := Lib.hid (hz.symm)
      obtain ⟨z1, z2⟩ := z1
      have q3 : IntKind.i64.wrap z = z := IntWalk.i64_in _ (by omega)
      clear hz
      have i0 : (0 : Int) ≤ (k : Int) := by omega
      have i1 : (k : Int) < 256 := by omega
      go_wp2
      refine wp_region_still_tail 12 (by kernel_rfl) (by kernel_rfl) ?_
      simp only [List.take_succ_cons, List.take_zero, List.drop_succ_cons, List.drop_zero]
      repeat still_step
      still_call (rmod_same _ x _ HX.out v1 v2)
      repeat still_step
      still_call (rmod_same _ y _ HY.out v3 v4)
      repeat still_step
      refine wpStill_nil ?_
      change wpList _ _ _ _ _ wr.drew
      go_wp2
      go_roundw
      case rel => exact ⟨k + 1, by omega, by go_num, Lib.hid (partv_succ (by rw [up_at, HT.out, ← HZ.out]) HR.out).drew, Lib.hid (HRB.out.setOther (a := ⟨w.heap.size, k, none⟩) (show w.heap.size + 1 ≠ w.heap.size by omega) _).drew, Lib.hid ((Below.heap_setCell wr ⟨w.heap.size, k, none⟩ _ _ (by show w.heap.size + 2 ≠ w.heap.size; omega)).trans HZ2.out), Lib.hid (HB.out.setCell (p := ⟨w.heap.size, k, none⟩) (by show w.heap.size ≤ w.heap.size; omega) _).drew⟩
      case measure => simp [intOf]; omega
    · obtain rfl : k = 256 := by omega
      obtain ⟨ds, hds, hD⟩ := of_row HR.out
      have H1 := Lib.hid hds; have H2 := Lib.hid (partv_all hD); have H3 := Lib.hid (poly_sized hD); have H4 := Lib.hid (show Z.size = ds.size by rw [HZ.out.1, hD.1]); clear hds hD
      go_wp2_with (first | (refine wpList_load_row rfl 23 (.tmp 2) rfl w.heap.size rfl 23 ds (0, 0) _ H1.out Try.underlying23 rfl H3.out ?_) | (refine wpList_store_row rfl 23 (.tmp 4) (.tmp 22) rfl (w.heap.size + 2) ds rfl rfl 23 Z HZ2.out H3.out H4.out H2.out.cells ?_))
      refine bodyPost_ret (v := .agg ds) (results_cell_row (p := 4) (ty := 23) (by kernel_rfl) _ _ (w.heap.size + 2) 23 ds (0, 0) _ rfl (setRow_heap _ _ _ _ _ _ HZ2.out) Try.underlying23 rfl H3.out) rfl ⟨ds, rfl, H2.out, below_setRow HB.out (by omega) _⟩

set_option maxHeartbeats 1600000 in
set_option maxRecDepth 100000 in
theorem rcen_any (cs : Array Value) (p : Nat → Int) (w : World) (hP : IsP cs p) (hF : Fits p) :
    Calls Try.prog 13 #[.agg cs] w fun e w' => ∃ ds, e = .returned (.agg ds) ∧ IsP ds (fun i => cen (redp p i)) ∧ Below w.heap.size w w' := by
  have HP := Lib.hid hP; have HF := Lib.hid hF; clear hP hF
  obtain ⟨Z, hz, hZ⟩ := zero_poly
  have HZ := Lib.hid hZ; clear hZ
  have e : (w.alloc (.cells cs 23)).heap.size = w.heap.size + 1 := by simp
  have HRA := Lib.hid ((row_of (heap_alloc_last w (.cells cs 23)) (partv_zero HP.out (fun i => cen (redp p i)))).alloc (.cells Z 23))
  have hr := heap_alloc_last (w.alloc (.cells cs 23)) (.cells Z 23)
  rw [e] at hr
  have HRZ := Lib.hid hr
  have HB := Lib.hid (((Below.refl _ _).alloc (Nat.le_refl w.heap.size) (.cells cs 23)).alloc (by simp) (.cells Z 23))
  clear hr e
  go_enter Try.func13, Try.ntmps13
  go_wp2
  clear hz
  go_loopw [3] (fun i W => ∃ k : Nat, k ≤ 256 ∧ i = .int .i64 k ∧ Hid (W.rowIs w.heap.size 23 256 (ints (partv (fun i => cen (redp p i)) p k))) ∧ Hid (W.heap[w.heap.size + 1]? = some (.cells Z 23 (0, 0))) ∧ Hid (Below w.heap.size w W)) (fun i _ => 256 - (intOf i).toNat)
  case atStart => exact ⟨0, by omega, rfl, HRA, HRZ, HB⟩
  case round =>
    clear HRA HRZ HB
    obtain ⟨k, hk, rfl, HR, HQ, HB⟩ := hrel
    by_cases hlt : k < 256
    · obtain ⟨v1, v2⟩ := HF.out k hlt
      have d := HR.out.frozen k
      have hc := HR.out.cell hlt
      unfold ints at hc
      rw [partv_at] at hc
      have hcn : cen (redp p k) = if nv (redp p k) ≤ 4190208 then nv (redp p k) else nv (redp p k) - 8380417 := rfl
      obtain ⟨x, hx⟩ : ∃ x, redp p k = x := ⟨_, rfl⟩
      rw [hx] at hcn
      have HX := Lib.hid (show red (p k) = x from hx)
      have z1 := nv_lo x; have z2 := nv_hi x
      obtain ⟨z, hz⟩ : ∃ z, nv x = z := ⟨_, rfl⟩
      rw [hz] at hcn z1 z2
      have HV : Hid ((fun i => cen (redp p i)) k = cen x) := Lib.hid (by show cen (redp p k) = _; rw [hx])
      have HZE := Lib.hid hz
      clear hx hz
      have hc2 : (wr.setCell ⟨w.heap.size, k, none⟩ (.int .i64 z)).cell? ⟨w.heap.size, k, none⟩ = some (.int .i64 z) := by
        have := (row_set HR.out k z).cell hlt
        unfold ints at this
        rw [this]
        show some (Value.int .i64 (if k = k then z else _)) = _
        rw [if_pos rfl]
      have hd2 : (wr.setCell ⟨w.heap.size, k, none⟩ (.int .i64 z)).frozen? ⟨w.heap.size, k, none⟩ = false := (row_set HR.out k z).frozen k
      by_cases hle : z ≤ 4190208
      · rw [if_pos hle] at hcn
        have HCN := Lib.hid hcn; clear hcn
        go_wp2_with fail
        refine (rmod_is _ x _ HX.out v1 v2).mono ?_
        rintro e' w' ⟨rfl, rfl⟩
        rw [HZE.out]
        go_wp2
        go_roundw
        case rel => exact ⟨k + 1, by omega, by go_num, Lib.hid (partv_succ (by rw [HV.out, HCN.out]) HR.out), Lib.hid ((Below.heap_setCell wr _ _ _ (by show w.heap.size + 1 ≠ w.heap.size; omega)).trans HQ.out), Lib.hid (HB.out.setCell (by show w.heap.size ≤ w.heap.size; omega) _)⟩
        case measure => simp [intOf]; omega
      · rw [if_neg hle] at hcn
        have HCN := Lib.hid hcn; clear hcn
        go_wp2_with fail
        refine (rmod_is _ x _ HX.out v1 v2).mono ?_
        rintro e' w' ⟨rfl, rfl⟩
        rw [HZE.out]
        go_wp2
        go_roundw
        case rel => exact ⟨k + 1, by omega, by go_num, Lib.hid (row_is (row_set (row_set HR.out k z) k (z - 8380417)) (fun i hi => by
            show (if i = k then z - 8380417 else (if i = k then z else partv _ p k i)) = partv _ p (k + 1) i
            by_cases e : i = k
            · subst e; rw [if_pos rfl]; unfold partv; rw [if_pos (by omega)]; exact (HV.out.trans HCN.out).symm
            · rw [if_neg e, if_neg e]; unfold partv
              by_cases h : i < k
              · rw [if_pos h, if_pos (by omega)]
              · rw [if_neg h, if_neg (by omega)])), Lib.hid ((Below.heap_setCell _ _ _ _ (by show w.heap.size + 1 ≠ w.heap.size; omega)).trans ((Below.heap_setCell wr _ _ _ (by show w.heap.size + 1 ≠ w.heap.size; omega)).trans HQ.out)), Lib.hid ((HB.out.setCell (by show w.heap.size ≤ w.heap.size; omega) _).setCell (by show w.heap.size ≤ w.heap.size; omega) _)⟩
        case measure => simp [intOf]; omega
    · obtain rfl : k = 256 := by omega
      obtain ⟨ds, hds, hD⟩ := of_row HR.out
      have H1 := Lib.hid hds; have H2 := Lib.hid (partv_all hD); have H3 := Lib.hid (poly_sized hD); have H4 := Lib.hid (show Z.size = ds.size by rw [HZ.out.1, hD.1]); clear hds hD
      go_wp2_with (first | (refine wpList_load_row rfl 23 (.tmp 1) rfl w.heap.size rfl 23 ds (0, 0) _ H1.out Try.underlying23 rfl H3.out ?_) | (refine wpList_store_row rfl 23 (.tmp 2) (.tmp 24) rfl (w.heap.size + 1) ds rfl rfl 23 Z HQ.out H3.out H4.out H2.out.cells ?_))
      refine bodyPost_ret (v := .agg ds) (results_cell_row (p := 2) (ty := 23) (by kernel_rfl) _ _ (w.heap.size + 1) 23 ds (0, 0) _ rfl (setRow_heap _ _ _ _ _ _ HQ.out) Try.underlying23 rfl H3.out) rfl ⟨ds, rfl, H2.out, below_setRow HB.out (by omega) _⟩

set_option maxHeartbeats 1600000 in
set_option maxRecDepth 100000 in
theorem rsize_any (cs : Array Value) (p : Nat → Int) (w : World) (hP : IsP cs p) (hF : Fits p) :
    Calls Try.prog 15 #[.agg cs] w fun e w' => e = .returned (.int .i64 (siz (redp p))) ∧ Below w.heap.size w w' := by
  have HP := Lib.hid hP; have HF := Lib.hid hF; clear hP hF
  obtain ⟨Z, hz, hZ⟩ := zero_poly
  have HZ := Lib.hid hZ; clear hZ
  have HA := Lib.hid (heap_alloc_last w (.cells cs 23))
  have HB := Lib.hid ((Below.refl w.heap.size w).alloc (Nat.le_refl _) (.cells cs 23))
  go_enter Try.func15, Try.ntmps15
  go_wp2_with (refine wpList_load_row rfl 23 (.tmp 1) rfl w.heap.size rfl 23 cs (0, 0) _ HA.out Try.underlying23 rfl (poly_sized HP.out) ?_)
  refine (rcen_any cs p _ HP.out HF.out).mono ?_
  rintro e' w1 ⟨ds, rfl, hD, hB⟩
  have HD := Lib.hid hD
  have HB1 := Lib.hid (HB.out.trans (hB.mono HB.out.size))
  clear hB hD HB HA
  go_wp2_with (refine wpList_store_row rfl 23 (.tmp 3) (.tmp 7) rfl w1.heap.size ds rfl rfl 23 Z (heap_alloc_last w1 _) (poly_sized HD.out) (by rw [HZ.out.1, HD.out.1]) HD.out.cells ?_; rw [World.setRow_alloc_new])
  have HR := Lib.hid (row_of (heap_alloc_last w1 (.cells ds 23)) HD.out)
  have HB2 := Lib.hid (HB1.out.alloc HB1.out.size (.cells ds 23))
  obtain ⟨B, hB⟩ : ∃ B, w1.heap.size = B := ⟨_, rfl⟩
  rw [hB] at HR
  change Code.wp _ _ _ _ (w1.alloc (.cells ds 23))
  generalize w1.alloc (.cells ds 23) = w2 at *
  rw [hB]
  clear hB HB1 hz
  go_loopw [4, 5] (fun s i W => ∃ k : Nat, k ≤ 256 ∧ i = .int .i64 k ∧ s = .int .i64 (sizTo (redp p) k) ∧ Hid (W.rowIs B 23 256 (ints (fun i => cen (redp p i)))) ∧ Hid (Below w.heap.size w W)) (fun _ i _ => 256 - (intOf i).toNat)
  case atStart => exact ⟨0, by omega, rfl, rfl, HR, HB2⟩
  case round =>
    clear HB2 HR
    obtain ⟨k, hk, rfl, rfl, HR, HB⟩ := hrel
    by_cases hlt : k < 256
    · have hc := HR.out.cell hlt
      unfold ints at hc
      dsimp only at hc
      have hs : sizTo (redp p) (k + 1) = if mag (redp p k) > sizTo (redp p) k then mag (redp p k) else sizTo (redp p) k := rfl
      have sb := sizTo_bd (redp p) k
      have hm : mag (redp p k) = if cen (redp p k) < 0 then -cen (redp p k) else cen (redp p k) := rfl
      have cb := cen_bd (redp p k)
      obtain ⟨c, hcc⟩ : ∃ c, cen (redp p k) = c := ⟨_, rfl⟩
      obtain ⟨y, hy⟩ : ∃ y, sizTo (redp p) k = y := ⟨_, rfl⟩
      rw [hy] at hs sb
      rw [hcc] at hm cb hc
      rw [hm] at hs
      rw [hy]
      have HY := Lib.hid hy; have HC := Lib.hid hcc
      clear hy hcc hm
      obtain ⟨s1, s2⟩ := sb; obtain ⟨c1, c2⟩ := cb
      have i0 : (0 : Int) ≤ (k : Int) := by omega
      have i1 : (k : Int) < 256 := by omega
      have hdk : decide ((k : Int) < 256) = true := decide_eq_true (by omega)
      have HK := Lib.hid hlt
      obtain ⟨v, hv⟩ : ∃ v, sizTo (redp p) (k + 1) = v := ⟨_, rfl⟩
      rw [hv] at hs
      have HV := Lib.hid hv
      clear hv
      by_cases hn : c < 0
      · rw [if_pos hn] at hs
        have hg1 : ¬ (c > y) := by omega
        by_cases hg : -c > y
        · rw [if_pos hg] at hs
          subst hs
          go_wp2
          go_region
          go_wp2
          go_roundw
          case rel => exact ⟨k + 1, by omega, by go_num, by rw [HV.out], HR.out.drew, HB.out.drew⟩
          case measure => simp [intOf]; omega
        · rw [if_neg hg] at hs
          subst hs
          go_wp2
          go_region
          go_wp2
          go_roundw
          case rel => exact ⟨k + 1, by omega, by go_num, by rw [HV.out], HR.out.drew, HB.out.drew⟩
          case measure => simp [intOf]; omega
      · rw [if_neg hn] at hs
        by_cases hg : c > y
        · rw [if_pos hg] at hs
          subst hs
          have hg2 : ¬ (-v > v) := by omega
          go_wp2
          go_region
          go_wp2
          go_roundw
          case rel => exact ⟨k + 1, by omega, by go_num, by rw [HV.out], HR.out.drew, HB.out.drew⟩
          case measure => simp [intOf]; omega
        · rw [if_neg hg] at hs
          subst hs
          have hg2 : ¬ (-c > v) := by omega
          go_wp2
          go_region
          go_wp2
          go_roundw
          case rel => exact ⟨k + 1, by omega, by go_num, by rw [HV.out], HR.out.drew, HB.out.drew⟩
          case measure => simp [intOf]; omega
    · obtain rfl : k = 256 := by omega
      go_wp2
      go_ret
      exact ⟨rfl, HB.out⟩
end Go.Proofs.Ytaihlmedeebimaa.Lg
