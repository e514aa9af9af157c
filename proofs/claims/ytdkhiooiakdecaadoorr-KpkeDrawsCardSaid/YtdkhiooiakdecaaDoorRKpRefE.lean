/- Walks of the document's own: Uniform. Written by tools/mk_kprefe.py. -/
import Derived.Test.YtdkhiooiakdecaaDoorRKpRefD
import Derived.Test.YtdkhiooiakdecaaDoorRKecTold
namespace Go.Proofs.YtdkhiooiakdecaaDoorR.Kp
set_option linter.all false
open Go.RowKit Iter Sm

theorem acc_enough' {c : Nat → Nat} {k n : Nat} (h : k ≤ n) (hl : 256 ≤ (acc c k).length) : (∀ i, i < 256 → drawV c n i = accP c k i) ∧ drawE c n 51 = 0 := by
  have hm := acc_len_mono (c := c) h
  have hg := acc_grows c k (n - k)
  rw [show k + (n - k) = n by omega] at hg
  unfold drawV drawE
  rw [if_pos (by omega), if_pos (by omega)]
  exact ⟨fun i hi => by unfold accP; rw [gt_prefix hg (by omega)], rfl⟩
/-- how many there are, and no more than there may be -/
def upTo (c : Nat → Nat) (k : Nat) : Nat := min 256 (acc c k).length
theorem upTo_yes {c : Nat → Nat} {k : Nat} (h : c k < 3329) (hl : upTo c k < 256) : upTo c (k + 1) = upTo c k + 1 := by unfold upTo at *; rw [acc_len_yes h]; omega
theorem upTo_full {c : Nat → Nat} {k : Nat} (hl : ¬ upTo c k < 256) : upTo c (k + 1) = upTo c k := by
  have := acc_len_mono (c := c) (show k ≤ k + 1 by omega)
  unfold upTo at *; omega
theorem upTo_no {c : Nat → Nat} {k : Nat} (h : ¬ c k < 3329) : upTo c (k + 1) = upTo c k := by unfold upTo; rw [acc_no h]
theorem row_yes {w : World} {b m : Nat} {c : Nat → Nat} {k : Nat} (h : w.rowIs b 26 256 (ints (accP c k))) (hc : c k < 3329) (hl : upTo c k < 256) (hm : upTo c k = m) {x : Int} (hx : x = (c k : Int)) : (w.setCell ⟨b, m, none⟩ (.int .i64 x)).rowIs b 26 256 (ints (accP c (k + 1))) := by
  subst hx
  have e : (acc c k).length = m := by unfold upTo at *; omega
  refine (row_set h m (c k : Int)).congr fun i hi => ?_
  unfold ints
  rw [accP_yes hc, e]
theorem row_full {w : World} {b : Nat} {c : Nat → Nat} {k : Nat} (h : w.rowIs b 26 256 (ints (accP c k))) (hl : ¬ upTo c k < 256) : w.rowIs b 26 256 (ints (accP c (k + 1))) :=
  h.congr fun i hi => by unfold ints; rw [accP_full (by unfold upTo at hl; omega) hi]
theorem row_no {w : World} {b : Nat} {c : Nat → Nat} {k : Nat} (h : w.rowIs b 26 256 (ints (accP c k))) (hc : ¬ c k < 3329) : w.rowIs b 26 256 (ints (accP c (k + 1))) := by rw [accP_no hc]; exact h
theorem addr_add_block (a : Addr) (j : Nat) : (a.add j).block = a.block := by unfold Addr.add; split <;> rfl
theorem cands_even (bs : List Nat) (k : Nat) : cands bs (2 * k) = Kec.gt (strm bs) (3 * k) + 256 * (Kec.gt (strm bs) (3 * k + 1) % 16) := by
  unfold cands cand
  rw [if_pos (by omega), show 2 * k / 2 = k by omega]
theorem cands_odd (bs : List Nat) (k : Nat) : cands bs (2 * k + 1) = Kec.gt (strm bs) (3 * k + 1) / 16 + 16 * Kec.gt (strm bs) (3 * k + 2) := by
  unfold cands cand
  rw [if_neg (by omega), show (2 * k + 1) / 2 = k by omega]
set_option maxHeartbeats 8000000 in
set_option maxRecDepth 100000 in
theorem runiform_ok (A : Option Addr) (bs : List Nat) (n c : Nat) (w : World) (hR : Kec.Rd w w.heap.size A bs) (hn : bs.length = n) (hl : n = 34) (h3 : 3 ≤ w.heap.size) :
    Calls Tryd.prog 11 #[.slice A n c] w (PolyErr (drawV (cands bs) 1120) (drawE (cands bs) 1120 51) w) := by
  obtain ⟨Z, hz, hZ⟩ := zero_poly
  have HZ := Lib.hid hZ; have HR := Lib.hid hR; have HIZ := Lib.hid (poly_sized hZ); have HN := Lib.hid hn
  have e1 : (w.alloc (.cells Z 26)).heap.size = w.heap.size + 1 := by simp
  have g0 := (Below.heap_alloc (w.alloc (.cells Z 26)) (.cells Z 26) w.heap.size (by rw [e1]; omega)).trans (heap_alloc_last w (.cells Z 26))
  have g1 := heap_alloc_last (w.alloc (.cells Z 26)) (.cells Z 26)
  rw [e1] at g1
  have HG0 := Lib.hid g0; have HG1 : Hid (((w.alloc (.cells Z 26)).alloc (.cells Z 26)).rowIs (w.heap.size + 1) 26 256 (ints (accP (cands bs) 0))) := Lib.hid (row_of g1 (by rw [accP_zero]; exact hZ))
  have HB0 := Lib.hid (((Below.refl w.heap.size w).alloc (Nat.le_refl _) (.cells Z 26)).alloc (by simp) (.cells Z 26))
  have HSB := Lib.hid (strm_lt bs)
  have HEV := Lib.hid (cands_even bs); have HOD := Lib.hid (cands_odd bs)
  have HSH : Hid (Kec.shk 168 31 bs 1680 = strm bs) := Lib.hid (Kec.shk_at 168 31 bs 1680 (by omega))
  have HSL : Hid ((strm bs).length = 1680) := Lib.hid (Kec.outs_len _ _ _)
  obtain ⟨cs, hcs⟩ : ∃ cs, cands bs = cs := ⟨_, rfl⟩
  rw [hcs] at HG1 HEV HOD
  rw [hcs]
  have HFIN : Hid (∀ {k : Nat}, (k ≤ 1120 ∧ 256 ≤ (acc cs k).length) → (∀ i, i < 256 → drawV cs 1120 i = accP cs k i) ∧ drawE cs 1120 51 = 0) := Lib.hid fun h => acc_enough' h.1 h.2
  have HNO : Hid ((acc cs 1120).length < 256 → drawV cs 1120 = (fun _ => 0) ∧ drawE cs 1120 51 = 51) := Lib.hid fun h => draw_no h 51
  clear hZ hR hn e1 g0 g1 hcs
  subst hl
  go_enter Tryd.func11, Tryd.ntmps11
  go_wp2_with fail
  obtain ⟨w1, hw1⟩ : ∃ w1, (w.alloc (.cells Z 26)).alloc (.cells Z 26) = w1 := ⟨_, rfl⟩
  rw [hw1] at HG0 HG1 HB0
  rw [hw1]
  clear hw1
  refine (Kec.rshake128_told A bs 34 c 1680 w1 (by have := HB0.out.size; omega) ((HR.out.below HB0.out).more HB0.out.size) HN.out (by omega)).mono ?_
  rintro e' w2 ⟨v, rfl, hh, hB2⟩
  rw [HSH.out] at hh
  obtain ⟨A2, n2, c2, rfl, hR2, hn2, hlo⟩ := hh
  have hN2 : n2 = 1680 := by rw [← hn2, HSL.out]
  have hN2a : n2 ≤ 1680 := by omega
  have hN2b : 1680 ≤ n2 := by omega
  clear hN2
  have HR2 := Lib.hid hR2; have HN2 := Lib.hid hn2; have HLO := Lib.hid hlo
  have HG2 := Lib.hid ((hB2.block w.heap.size (Array.getElem?_eq_some_iff.1 HG0.out).1).trans HG0.out)
  have HW2 := Lib.hid (HG1.out.of_block (hB2.block _ HG1.out.lt))
  have HB2 := Lib.hid (HB0.out.trans (hB2.mono HB0.out.size))
  have HL1 : Hid (w.heap.size + 1 < w1.heap.size) := Lib.hid HG1.out.lt
  have H2S : Hid (w1.heap.size ≤ w2.heap.size) := Lib.hid hB2.size
  obtain ⟨ad, had, hadB, hcell⟩ := hR2.2 (by omega)
  subst had
  have HAD : Hid (w.heap.size + 1 < ad.block) := Lib.hid (by have := hlo ad rfl; have := HL1.out; omega)
  have HADB := Lib.hid hadB
  have HCELL : Hid (∀ t, t < 1680 → w2.cell? (ad.add t) = some (.int .u8 (Kec.gt (strm bs) t : Nat))) := Lib.hid fun t ht => hcell t (by omega)
  clear hB2 hR2 hn2 hlo HG0 HG1 HB0 HR2 HN2 HLO hcell hadB
  go_wp2_with fail
  go_loopw [6, 7] (fun m i W => ∃ k q u : Nat, k ≤ 560 ∧ q = 3 * k ∧ upTo cs (2 * k) = u ∧ m = .int .i64 u ∧ i = .int .i64 q ∧ Hid (W.rowIs (w.heap.size + 1) 26 256 (ints (accP cs (2 * k)))) ∧ Hid (∀ t, t < 1680 → W.cell? (ad.add t) = some (.int .u8 (Kec.gt (strm bs) t : Nat))) ∧ Hid (W.heap[w.heap.size]? = some (.cells Z 26 (0, 0))) ∧ Hid (Below w.heap.size w W)) (fun _ i _ => 1680 - (intOf i).toNat)
  case atStart => exact ⟨0, 0, 0, by omega, rfl, rfl, rfl, rfl, HW2, HCELL, HG2, HB2⟩
  case round =>
    obtain ⟨k, q, u, hk, hq, hu, rfl, rfl, HRk, HCk, HQk, HBk⟩ := hrel
    have hu256 : u ≤ 256 := by rw [← hu]; unfold upTo; omega
    have HU := Lib.hid hu
    obtain ⟨q2, hq2⟩ : ∃ q2, q + 2 = q2 := ⟨_, rfl⟩
    have eq2 : (q : Int) + 2 = (q2 : Int) := by omega
    by_cases hlt : q2 < 1680
    · have hd1 : decide ((q2 : Int) < (n2 : Int)) = true := decide_eq_true (by omega)
      obtain ⟨q1, hq1⟩ : ∃ q1, q + 1 = q1 := ⟨_, rfl⟩
      have eq1 : (q : Int) + 1 = (q1 : Int) := by omega
      by_cases hult : u < 256
      · have hd2 : decide ((u : Int) < 256) = true := decide_eq_true (by omega)
        have ca := HCk.out q (by omega); have cb := HCk.out q1 (by omega); have cc := HCk.out q2 (by omega)
        have hev := HEV.out k; have hod := HOD.out k
        rw [← hq, hq1] at hev
        rw [← hq, hq1, hq2] at hod
        have la := HSB.out q; have lb := HSB.out q1; have lc := HSB.out q2
        obtain ⟨za, ya⟩ : ∃ z, Kec.gt (strm bs) q = z := ⟨_, rfl⟩
        obtain ⟨zb, yb⟩ : ∃ z, Kec.gt (strm bs) q1 = z := ⟨_, rfl⟩
        obtain ⟨zc, yc⟩ : ∃ z, Kec.gt (strm bs) q2 = z := ⟨_, rfl⟩
        rw [ya] at ca hev la; rw [yb] at cb hev hod lb; rw [yc] at cc hod lc
        obtain ⟨x, hx⟩ : ∃ x, cs (2 * k) = x := ⟨_, rfl⟩
        obtain ⟨y, hy⟩ : ∃ y, cs (2 * k + 1) = y := ⟨_, rfl⟩
        rw [hx] at hev; rw [hy] at hod
        have HX := Lib.hid hx; have HY := Lib.hid hy; have HQE := Lib.hid hq
        have hx4 : x < 4096 := by omega
        have hy4 : y < 4096 := by omega
        clear hx hy hu ya yb yc hq
        have i0 : q < n2 := by omega
        have i1 : q1 < n2 := by omega
        have i2 : q2 < n2 := by omega
        have wq1 : IntKind.i64.wrap (q1 : Int) = (q1 : Int) := by rw [IntKind.wrap_i64]; omega
        have wq2 : IntKind.i64.wrap (q2 : Int) = (q2 : Int) := by rw [IntKind.wrap_i64]; omega
        have HQ1 := Lib.hid hq1; have HQ2 := Lib.hid hq2
        clear hq1 hq2
        have wa : IntKind.i64.wrap (za : Int) = (za : Int) := by rw [IntKind.wrap_i64]; omega
        have wb : IntKind.i64.wrap (zb : Int) = (zb : Int) := by rw [IntKind.wrap_i64]; omega
        have wc : IntKind.i64.wrap (zc : Int) = (zc : Int) := by rw [IntKind.wrap_i64]; omega
        obtain ⟨b1, hb1⟩ : ∃ b, zb % 16 = b := ⟨_, rfl⟩
        obtain ⟨b2, hb2⟩ : ∃ b, zb / 16 = b := ⟨_, rfl⟩
        rw [hb1] at hev; rw [hb2] at hod
        have tb1 : (zb : Int).tmod 16 = (b1 : Int) := by rw [Int.tmod_eq_emod_of_nonneg (by omega)]; omega
        have tb2 : (zb : Int).tdiv 16 = (b2 : Int) := by rw [Int.tdiv_eq_ediv_of_nonneg (by omega)]; omega
        have wb1 : IntKind.i64.wrap (b1 : Int) = (b1 : Int) := by rw [IntKind.wrap_i64]; omega
        have wb2 : IntKind.i64.wrap (b2 : Int) = (b2 : Int) := by rw [IntKind.wrap_i64]; omega
        have wm1 : IntKind.i64.wrap (256 * (b1 : Int)) = 256 * (b1 : Int) := by rw [IntKind.wrap_i64]; omega
        have wm2 : IntKind.i64.wrap (16 * (zc : Int)) = 16 * (zc : Int) := by rw [IntKind.wrap_i64]; omega
        have ex : (za : Int) + 256 * (b1 : Int) = (x : Int) := by omega
        have ey : (b2 : Int) + 16 * (zc : Int) = (y : Int) := by omega
        have wx : IntKind.i64.wrap (x : Int) = (x : Int) := by rw [IntKind.wrap_i64]; omega
        have wy : IntKind.i64.wrap (y : Int) = (y : Int) := by rw [IntKind.wrap_i64]; omega
        have HEVX := Lib.hid hev; have HODX := Lib.hid hod
        clear hev hod hb1 hb2
        go_wp2
        refine wp_region_still_tail 14 (by kernel_rfl) (by kernel_rfl) ?_
        simp only [List.take_succ_cons, List.take_zero, List.drop_succ_cons, List.drop_zero]
        repeat still_step
        refine wpStill_nil ?_
        change wpList _ _ _ _ _ wr.drew
        have cb2 : wr.drew.cell? (ad.add q1) = some (.int .u8 (zb : Nat)) := cb
        have cc2 : wr.drew.cell? (ad.add q2) = some (.int .u8 (zc : Nat)) := cc
        obtain ⟨wd, hwd⟩ : ∃ wd, wr.drew = wd := ⟨_, rfl⟩
        have HRd : Hid (wd.rowIs (w.heap.size + 1) 26 256 (ints (accP cs (2 * k)))) := Lib.hid (by rw [← hwd]; exact HRk.out.drew)
        have HCd : Hid (∀ t, t < 1680 → wd.cell? (ad.add t) = some (.int .u8 (Kec.gt (strm bs) t : Nat))) := Lib.hid (by rw [← hwd]; exact HCk.out)
        have HQd : Hid (wd.heap[w.heap.size]? = some (.cells Z 26 (0, 0))) := Lib.hid (by rw [← hwd]; exact HQk.out)
        have HBd : Hid (Below w.heap.size w wd) := Lib.hid (by rw [← hwd]; exact Below.drew HBk.out)
        rw [hwd] at cb2 cc2
        rw [hwd]
        clear ca cb cc hwd
        go_wp2
        refine wp_region_still_tail 15 (by kernel_rfl) (by kernel_rfl) ?_
        simp only [List.take_succ_cons, List.take_zero, List.drop_succ_cons, List.drop_zero]
        repeat still_step
        refine wpStill_nil ?_
        change wpList _ _ _ _ _ wd.drew
        clear cb2 cc2
        obtain ⟨W0, hW0⟩ : ∃ W0, wd.drew = W0 := ⟨_, rfl⟩
        have HR0 : Hid (W0.rowIs (w.heap.size + 1) 26 256 (ints (accP cs (2 * k)))) := Lib.hid (by rw [← hW0]; exact HRd.out.drew)
        have HC0 : Hid (∀ t, t < 1680 → W0.cell? (ad.add t) = some (.int .u8 (Kec.gt (strm bs) t : Nat))) := Lib.hid (by rw [← hW0]; exact HCd.out)
        have HQ0 : Hid (W0.heap[w.heap.size]? = some (.cells Z 26 (0, 0))) := Lib.hid (by rw [← hW0]; exact HQd.out)
        have HB0 : Hid (Below w.heap.size w W0) := Lib.hid (by rw [← hW0]; exact Below.drew HBd.out)
        rw [hW0]
        clear hW0 HRk HCk HQk HBk HRd HCd HQd HBd i0 i1 i2 wq1 wq2 wa wb wc tb1 tb2 wb1 wb2 wm1 wm2 ex ey wx wy la lb lc eq1
        by_cases hx9 : x < 3329
        · have dx : decide ((x : Int) < 3329) = true := decide_eq_true (by omega)
          obtain ⟨u1, hu1⟩ : ∃ u1, u + 1 = u1 := ⟨_, rfl⟩
          have eu1 : (u : Int) + 1 = (u1 : Int) := by omega
          have hcx : cs (2 * k) < 3329 := by rw [HX.out]; exact hx9
          have hl0 : upTo cs (2 * k) < 256 := by rw [HU.out]; exact hult
          have c1 : ∃ v, W0.cell? ⟨w.heap.size + 1, u, none⟩ = some v := ⟨_, HR0.out.cell hult⟩
          obtain ⟨v1, c1⟩ := c1
          have f1 := HR0.out.frozen u
          have HU1 : Hid (upTo cs (2 * k + 1) = u1) := Lib.hid (by rw [upTo_yes hcx hl0, HU.out, hu1])
          have HR1 : Hid ((W0.setCell ⟨w.heap.size + 1, u, none⟩ (.int .i64 (x : Int))).rowIs (w.heap.size + 1) 26 256 (ints (accP cs (2 * k + 1)))) := Lib.hid (row_yes HR0.out hcx hl0 HU.out (by rw [HX.out]))
          have HC1 : Hid (∀ t, t < 1680 → (W0.setCell ⟨w.heap.size + 1, u, none⟩ (.int .i64 (x : Int))).cell? (ad.add t) = some (.int .u8 (Kec.gt (strm bs) t : Nat))) := Lib.hid fun t ht => by
            rw [World.cell?_of_block (Below.heap_setCell _ ⟨w.heap.size + 1, u, none⟩ _ _ (by rw [addr_add_block]; have := HAD.out; show ad.block ≠ w.heap.size + 1; omega))]; exact HC0.out t ht
          have HQ1 : Hid ((W0.setCell ⟨w.heap.size + 1, u, none⟩ (.int .i64 (x : Int))).heap[w.heap.size]? = _) := Lib.hid ((Below.heap_setCell _ ⟨w.heap.size + 1, u, none⟩ _ _ (by show w.heap.size ≠ w.heap.size + 1; omega)).trans HQ0.out)
          have HB1 := Lib.hid (HB0.out.setCell (p := ⟨w.heap.size + 1, u, none⟩) (by show w.heap.size ≤ w.heap.size + 1; omega) (.int .i64 (x : Int)))
          clear hcx hl0 hu1
          by_cases hy9 : y < 3329
          · have dy : decide ((y : Int) < 3329) = true := decide_eq_true (by omega)
            have hcy : cs (2 * k + 1) < 3329 := by rw [HY.out]; exact hy9
            by_cases hm : u1 < 256
            · have dm : decide ((u1 : Int) < 256) = true := decide_eq_true (by omega)
              have c2 : ∃ v, (W0.setCell ⟨w.heap.size + 1, u, none⟩ (.int .i64 (x : Int))).cell? ⟨w.heap.size + 1, u1, none⟩ = some v := ⟨_, HR1.out.cell hm⟩
              obtain ⟨v2, c2⟩ := c2
              have f2 := HR1.out.frozen u1
              have HUN := Lib.hid (upTo_yes hcy (by rw [HU1.out]; exact hm))
              have HRN : Hid (((W0.setCell ⟨w.heap.size + 1, u, none⟩ (.int .i64 (x : Int))).setCell ⟨w.heap.size + 1, u1, none⟩ (.int .i64 (y : Int))).rowIs (w.heap.size + 1) 26 256 (ints (accP cs (2 * k + 1 + 1)))) := Lib.hid (row_yes HR1.out hcy (by rw [HU1.out]; exact hm) HU1.out (by rw [HY.out]))
              clear hcy
              go_wp2
              go_roundw
              case rel =>
                refine ⟨k + 1, q + 3, u1 + 1, by have := HQE.out; have := HQ2.out; omega, by have := HQE.out; omega, by rw [show 2 * (k + 1) = 2 * k + 1 + 1 by omega, HUN.out, HU1.out], by go_num, by go_num, HRN, Lib.hid fun t ht => ?_, Lib.hid ?_, Lib.hid ?_⟩
                · rw [World.cell?_of_block (Below.heap_setCell _ ⟨w.heap.size + 1, u1, none⟩ _ _ (by rw [addr_add_block]; have := HAD.out; show ad.block ≠ w.heap.size + 1; omega))]; exact HC1.out t ht
                · exact (Below.heap_setCell _ ⟨w.heap.size + 1, u1, none⟩ _ _ (by show w.heap.size ≠ w.heap.size + 1; omega)).trans HQ1.out
                · exact HB1.out.setCell (p := ⟨w.heap.size + 1, u1, none⟩) (by show w.heap.size ≤ w.heap.size + 1; omega) _
              case measure => simp [intOf]; omega
            · have dm : decide ((u1 : Int) < 256) = false := decide_eq_false (by omega)
              have HUN := Lib.hid (upTo_full (c := cs) (k := 2 * k + 1) (by rw [HU1.out]; exact hm))
              have HRN := Lib.hid (row_full HR1.out (by rw [HU1.out]; exact hm))
              clear hcy
              go_wp2
              go_roundw
              case rel => exact ⟨k + 1, q + 3, u1, by have := HQE.out; have := HQ2.out; omega, by have := HQE.out; omega, by rw [show 2 * (k + 1) = 2 * k + 1 + 1 by omega, HUN.out, HU1.out], by go_num, by go_num, HRN, HC1, HQ1, HB1⟩
              case measure => simp [intOf]; omega
          · have dy : decide ((y : Int) < 3329) = false := decide_eq_false (by omega)
            have hcy : ¬ cs (2 * k + 1) < 3329 := by rw [HY.out]; exact hy9
            have HUN := Lib.hid (upTo_no hcy)
            have HRN := Lib.hid (row_no HR1.out hcy)
            clear hcy
            go_wp2
            go_roundw
            case rel => exact ⟨k + 1, q + 3, u1, by have := HQE.out; have := HQ2.out; omega, by have := HQE.out; omega, by rw [show 2 * (k + 1) = 2 * k + 1 + 1 by omega, HUN.out, HU1.out], by go_num, by go_num, HRN, HC1, HQ1, HB1⟩
            case measure => simp [intOf]; omega
        · have dx : decide ((x : Int) < 3329) = false := decide_eq_false (by omega)
          have hcx : ¬ cs (2 * k) < 3329 := by rw [HX.out]; exact hx9
          obtain ⟨u1, hu1⟩ : ∃ u1, u = u1 := ⟨_, rfl⟩
          subst hu1
          have HU1 : Hid (upTo cs (2 * k + 1) = u) := Lib.hid (by rw [upTo_no hcx, HU.out])
          have HR1 := Lib.hid (row_no HR0.out hcx)
          have HC1 := HC0; have HQ1 := HQ0; have HB1 := HB0
          clear hcx
          by_cases hy9 : y < 3329
          · have dy : decide ((y : Int) < 3329) = true := decide_eq_true (by omega)
            have hcy : cs (2 * k + 1) < 3329 := by rw [HY.out]; exact hy9
            by_cases hm : u < 256
            · have dm : decide ((u : Int) < 256) = true := decide_eq_true (by omega)
              have c2 : ∃ v, W0.cell? ⟨w.heap.size + 1, u, none⟩ = some v := ⟨_, HR1.out.cell hm⟩
              obtain ⟨v2, c2⟩ := c2
              have f2 := HR1.out.frozen u
              have HUN := Lib.hid (upTo_yes hcy (by rw [HU1.out]; exact hm))
              have HRN : Hid ((W0.setCell ⟨w.heap.size + 1, u, none⟩ (.int .i64 (y : Int))).rowIs (w.heap.size + 1) 26 256 (ints (accP cs (2 * k + 1 + 1)))) := Lib.hid (row_yes HR1.out hcy (by rw [HU1.out]; exact hm) HU1.out (by rw [HY.out]))
              clear hcy
              go_wp2
              go_roundw
              case rel =>
                refine ⟨k + 1, q + 3, u + 1, by have := HQE.out; have := HQ2.out; omega, by have := HQE.out; omega, by rw [show 2 * (k + 1) = 2 * k + 1 + 1 by omega, HUN.out, HU1.out], by go_num, by go_num, HRN, Lib.hid fun t ht => ?_, Lib.hid ?_, Lib.hid ?_⟩
                · rw [World.cell?_of_block (Below.heap_setCell _ ⟨w.heap.size + 1, u, none⟩ _ _ (by rw [addr_add_block]; have := HAD.out; show ad.block ≠ w.heap.size + 1; omega))]; exact HC1.out t ht
                · exact (Below.heap_setCell _ ⟨w.heap.size + 1, u, none⟩ _ _ (by show w.heap.size ≠ w.heap.size + 1; omega)).trans HQ1.out
                · exact HB1.out.setCell (p := ⟨w.heap.size + 1, u, none⟩) (by show w.heap.size ≤ w.heap.size + 1; omega) _
              case measure => simp [intOf]; omega
            · exact absurd hult hm
          · have dy : decide ((y : Int) < 3329) = false := decide_eq_false (by omega)
            have hcy : ¬ cs (2 * k + 1) < 3329 := by rw [HY.out]; exact hy9
            have HUN := Lib.hid (upTo_no hcy)
            have HRN := Lib.hid (row_no HR1.out hcy)
            clear hcy
            go_wp2
            go_roundw
            case rel => exact ⟨k + 1, q + 3, u, by have := HQE.out; have := HQ2.out; omega, by have := HQE.out; omega, by rw [show 2 * (k + 1) = 2 * k + 1 + 1 by omega, HUN.out, HU1.out], by go_num, by go_num, HRN, HC1, HQ1, HB1⟩
            case measure => simp [intOf]; omega
      · obtain rfl : u = 256 := by omega
        have hd2 : decide (((256 : Nat) : Int) < 256) = false := by decide
        have hen : 2 * k ≤ 1120 ∧ 256 ≤ (acc cs (2 * k)).length := ⟨by omega, by have := HU.out; unfold upTo at this; omega⟩
        obtain ⟨ds, hds, hP⟩ := of_row HRk.out
        have H1 := Lib.hid hds; have H2 := Lib.hid hP; have HI := Lib.hid (poly_sized hP); have HM := Lib.hid (show Z.size = ds.size by rw [HZ.out.1, hP.1])
        clear hds hP
        go_wp2_with (first | (refine wpList_load_row rfl 26 (.tmp 4) rfl (w.heap.size + 1) rfl 26 ds (0, 0) _ H1.out Tryd.underlying26 rfl HI.out ?_) | (refine wpList_store_row rfl 26 (.tmp 2) (.tmp 77) rfl w.heap.size ds rfl rfl 26 Z HQk.out HI.out HM.out H2.out.cells ?_))
        refine bodyPost_ret (v := .tuple #[.agg ds, .int .i64 0]) (results_row_tmp (p := 2) (u := 3) (ty := 26) (by kernel_rfl) _ _ w.heap.size 26 ds (0, 0) _ rfl (setRow_heap _ _ _ _ _ _ HQk.out) Tryd.underlying26 rfl HI.out) rfl ⟨ds, by rw [(HFIN.out hen).2], H2.out.congr fun i hi => ((HFIN.out hen).1 i hi).symm, below_setRow HBk.out (Nat.le_refl _) _⟩
    · have hd1 : decide ((q2 : Int) < (n2 : Int)) = false := decide_eq_false (by omega)
      have hk560 : k = 560 := by omega
      by_cases hult : u < 256
      · have hfew : (acc cs 1120).length < 256 := by have := HU.out; rw [hk560, show 2 * 560 = 1120 from rfl] at this; unfold upTo at this; omega
        go_wp2_with (refine wpList_store_row rfl 26 (.tmp 2) (.tmp 76) rfl w.heap.size Z rfl rfl 26 Z HQk.out HIZ.out rfl HZ.out.cells ?_)
        refine bodyPost_ret (v := .tuple #[.agg Z, .int .i64 51]) (results_row_tmp (p := 2) (u := 3) (ty := 26) (by kernel_rfl) _ _ w.heap.size 26 Z (0, 0) _ rfl (setRow_heap _ _ _ _ _ _ HQk.out) Tryd.underlying26 rfl HIZ.out) rfl ⟨Z, by rw [(HNO.out hfew).2], by rw [(HNO.out hfew).1]; exact HZ.out, below_setRow HBk.out (Nat.le_refl _) _⟩
      · obtain rfl : u = 256 := by omega
        have hen : 2 * k ≤ 1120 ∧ 256 ≤ (acc cs (2 * k)).length := ⟨by omega, by have := HU.out; unfold upTo at this; omega⟩
        obtain ⟨ds, hds, hP⟩ := of_row HRk.out
        have H1 := Lib.hid hds; have H2 := Lib.hid hP; have HI := Lib.hid (poly_sized hP); have HM := Lib.hid (show Z.size = ds.size by rw [HZ.out.1, hP.1])
        clear hds hP
        go_wp2_with (first | (refine wpList_load_row rfl 26 (.tmp 4) rfl (w.heap.size + 1) rfl 26 ds (0, 0) _ H1.out Tryd.underlying26 rfl HI.out ?_) | (refine wpList_store_row rfl 26 (.tmp 2) (.tmp 77) rfl w.heap.size ds rfl rfl 26 Z HQk.out HI.out HM.out H2.out.cells ?_))
        refine bodyPost_ret (v := .tuple #[.agg ds, .int .i64 0]) (results_row_tmp (p := 2) (u := 3) (ty := 26) (by kernel_rfl) _ _ w.heap.size 26 ds (0, 0) _ rfl (setRow_heap _ _ _ _ _ _ HQk.out) Tryd.underlying26 rfl HI.out) rfl ⟨ds, by rw [(HFIN.out hen).2], H2.out.congr fun i hi => ((HFIN.out hen).1 i hi).symm, below_setRow HBk.out (Nat.le_refl _) _⟩
set_option maxHeartbeats 2000000 in
set_option maxRecDepth 100000 in
theorem runiform_no (A : Option Addr) (n c : Nat) (w : World) (hl : n ≠ 34) (hm : n ≤ 9223372036854775807) :
    Calls Tryd.prog 11 #[.slice A n c] w (PolyErr (fun _ => 0) 1 w) := by
  obtain ⟨Z, hz, hZ⟩ := zero_poly
  have HZ := Lib.hid hZ
  have e1 : (w.alloc (.cells Z 26)).heap.size = w.heap.size + 1 := by simp
  have g0 := (Below.heap_alloc (w.alloc (.cells Z 26)) (.cells Z 26) w.heap.size (by rw [e1]; omega)).trans (heap_alloc_last w (.cells Z 26))
  have g1 := heap_alloc_last (w.alloc (.cells Z 26)) (.cells Z 26)
  rw [e1] at g1
  have HG0 := Lib.hid g0; have HG1 := Lib.hid g1; have HI := Lib.hid (poly_sized hZ)
  have HB0 := Lib.hid (((Below.refl w.heap.size w).alloc (Nat.le_refl _) (.cells Z 26)).alloc (by simp) (.cells Z 26))
  have hne : ((n : Int) != 34) = true := by rw [bne_iff_ne]; omega
  clear hZ e1 g0 g1 hl
  go_enter Tryd.func11, Tryd.ntmps11
  go_wp2_with (first | (refine wpList_load_row rfl 26 (.tmp 4) rfl (w.heap.size + 1) rfl 26 Z (0, 0) _ HG1.out Tryd.underlying26 rfl HI.out ?_) | (refine wpList_store_row rfl 26 (.tmp 2) (.tmp 13) rfl w.heap.size Z rfl rfl 26 Z HG0.out HI.out rfl HZ.out.cells ?_))
  refine bodyPost_ret (v := .tuple #[.agg Z, .int .i64 1]) (results_row_tmp (p := 2) (u := 3) (ty := 26) (by kernel_rfl) _ _ w.heap.size 26 Z (0, 0) _ rfl (setRow_heap _ _ _ _ _ _ HG0.out) Tryd.underlying26 rfl HI.out) rfl ⟨Z, rfl, HZ.out, below_setRow HB0.out (Nat.le_refl _) _⟩
theorem runiform_all (A : Option Addr) (bs : List Nat) (n c : Nat) (w : World) (hR : Kec.Rd w w.heap.size A bs) (hn : bs.length = n) (hm : n ≤ 9223372036854775807) (h3 : 3 ≤ w.heap.size) :
    Calls Tryd.prog 11 #[.slice A n c] w (PolyErr (uniV bs) (uniE bs) w) := by
  by_cases hl : n = 34
  · have hV : uniE bs = drawE (cands bs) 1120 51 ∧ uniV bs = drawV (cands bs) 1120 := by unfold uniE uniV; rw [hn, if_pos hl, if_pos hl]; exact ⟨rfl, rfl⟩
    rw [hV.1, hV.2]
    exact runiform_ok A bs n c w hR hn hl h3
  · have hV : uniE bs = 1 ∧ uniV bs = fun _ => 0 := by unfold uniE uniV; rw [hn, if_neg hl, if_neg hl]; exact ⟨rfl, rfl⟩
    rw [hV.1, hV.2]
    exact runiform_no A n c w hl hm
end Go.Proofs.YtdkhiooiakdecaaDoorR.Kp
