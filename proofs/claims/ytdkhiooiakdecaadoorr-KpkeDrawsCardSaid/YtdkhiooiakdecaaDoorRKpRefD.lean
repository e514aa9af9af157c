/- Walks of the document's own: Centred. -/
import Derived.Test.YtdkhiooiakdecaaDoorRKpWalkL
import Derived.Test.YtdkhiooiakdecaaDoorRKpRefA
import Derived.Test.YtdkhiooiakdecaaDoorRSmRefB
namespace Go.Proofs.YtdkhiooiakdecaaDoorR.Kp
set_option linter.all false
open Go.RowKit Iter Sm

set_option maxHeartbeats 4000000 in
set_option maxRecDepth 100000 in
theorem rcentred_ok (A : Option Addr) (bs : List Nat) (n c : Nat) (w : World) (hR : Kec.Rd w w.heap.size A bs) (hn : bs.length = n) (hl : n = 128) :
    Calls Tryd.prog 12 #[.slice A n c] w (PolyErr (up (cenF bs)) 0 w) := by
  obtain ⟨Z, hz, hZ⟩ := zero_poly
  have HZ := Lib.hid hZ; have HR := Lib.hid hR
  have HBIT : Hid (∀ (t : Nat) (z : Int) (W : World), z = (t : Int) → t < 1024 → Kec.Rd W W.heap.size A bs → Calls Tryd.prog 25 #[.slice A n c, .int .i64 z] W fun e w' => e = .returned (.int .i64 (bt (num 8 (Kec.gt bs) 128) t)) ∧ w' = W) := Lib.hid fun t z W hz ht hRW => by
    have := rbit_any A bs n c t W hRW hn (by omega) (by omega)
    rw [hz]
    rwa [hl] at this ⊢
  have e1 : (w.alloc (.cells Z 26)).heap.size = w.heap.size + 1 := by simp
  have g0 := (Below.heap_alloc (w.alloc (.cells Z 26)) (.cells Z 26) w.heap.size (by rw [e1]; omega)).trans (heap_alloc_last w (.cells Z 26))
  have g1 := heap_alloc_last (w.alloc (.cells Z 26)) (.cells Z 26)
  rw [e1] at g1
  have HG0 := Lib.hid g0; have HG1 := Lib.hid (row_of g1 (fillp_zero hZ (cenV bs)))
  have HB0 := Lib.hid (((Below.refl w.heap.size w).alloc (Nat.le_refl _) (.cells Z 26)).alloc (by simp) (.cells Z 26))
  clear hZ hR hn e1 g0 g1
  subst hl
  go_enter Tryd.func12, Tryd.ntmps12
  go_wp2_with fail
  obtain ⟨w1, hw1⟩ : ∃ w1, (w.alloc (.cells Z 26)).alloc (.cells Z 26) = w1 := ⟨_, rfl⟩
  rw [hw1] at HG0 HG1 HB0
  rw [hw1]
  clear hw1
  go_loopw [5] (fun i W => ∃ j : Nat, j ≤ 256 ∧ i = .int .i64 j ∧ Hid (W.rowIs (w.heap.size + 1) 26 256 (ints (fillp (cenV bs) j))) ∧ Hid (W.heap[w.heap.size]? = some (.cells Z 26 (0, 0))) ∧ Hid (Below w.heap.size w W)) (fun i _ => 256 - (intOf i).toNat)
  case atStart => exact ⟨0, by omega, rfl, HG1, HG0, HB0⟩
  case round =>
    obtain ⟨j, hj, rfl, HR1, HQ1, HB1⟩ := hrel
    by_cases hlt : j < 256
    · obtain ⟨q, hq⟩ : ∃ q, 4 * j = q := ⟨_, rfl⟩
      have eq : 4 * (j : Int) = (q : Int) := by omega
      have hq4 : q + 3 < 1024 := by omega
      have HRr := Lib.hid ((HR.out.below HB1.out).more HB1.out.size)
      obtain ⟨M, hM⟩ : ∃ M, num 8 (Kec.gt bs) 128 = M := ⟨_, rfl⟩
      have hv : ((bt M q : Nat) : Int) + ((bt M (q + 1) : Nat) : Int) - ((bt M (q + 2) : Nat) : Int) - ((bt M (q + 3) : Nat) : Int) = cenV bs j := by
        unfold cenV
        rw [hM]
        have h := cbd_of (grp 4 M j)
        rw [bt_grp M 4 j 0 (by omega), bt_grp M 4 j 1 (by omega), bt_grp M 4 j 2 (by omega), bt_grp M 4 j 3 (by omega), hq] at h
        exact h
      have l0 := bt_lt M q; have l1 := bt_lt M (q + 1); have l2 := bt_lt M (q + 2); have l3 := bt_lt M (q + 3)
      have h0 := HBIT.out q q wr rfl (by omega) HRr.out
      have h1 := HBIT.out (q + 1) ((q : Int) + 1) wr (by omega) (by omega) HRr.out
      have h2 := HBIT.out (q + 2) ((q : Int) + 2) wr (by omega) (by omega) HRr.out
      have h3 := HBIT.out (q + 3) ((q : Int) + 3) wr (by omega) (by omega) HRr.out
      rw [hM] at h0 h1 h2 h3
      obtain ⟨z0, y0⟩ : ∃ z, bt M q = z := ⟨_, rfl⟩
      obtain ⟨z1, y1⟩ : ∃ z, bt M (q + 1) = z := ⟨_, rfl⟩
      obtain ⟨z2, y2⟩ : ∃ z, bt M (q + 2) = z := ⟨_, rfl⟩
      obtain ⟨z3, y3⟩ : ∃ z, bt M (q + 3) = z := ⟨_, rfl⟩
      rw [y0] at hv l0 h0; rw [y1] at hv l1 h1; rw [y2] at hv l2 h2; rw [y3] at hv l3 h3
      have HV := Lib.hid hv
      have H0 := Lib.hid h0; have H1 := Lib.hid h1; have H2 := Lib.hid h2; have H3 := Lib.hid h3
      have f1 := HR1.out.frozen j
      have c1 : ∃ v, wr.cell? ⟨w.heap.size + 1, j, none⟩ = some v := ⟨_, HR1.out.cell hlt⟩
      obtain ⟨v1, c1⟩ := c1
      clear hq hM hv h0 h1 h2 h3 y0 y1 y2 y3
      go_wp2_with fail
      refine H0.out.mono ?_
      rintro e' w' ⟨rfl, hw⟩
      subst hw
      go_wp2_with fail
      refine H1.out.mono ?_
      rintro e' w' ⟨rfl, hw⟩
      subst hw
      go_wp2_with fail
      refine H2.out.mono ?_
      rintro e' w' ⟨rfl, hw⟩
      subst hw
      go_wp2_with fail
      refine H3.out.mono ?_
      rintro e' w' ⟨rfl, hw⟩
      subst hw
      go_wp2
      go_roundw
      case rel =>
        refine ⟨j + 1, by omega, by go_num, Lib.hid ?_, Lib.hid ?_, Lib.hid ?_⟩
        · have := fillp_succ HR1.out
          rw [← HV.out] at this
          exact this
        · exact (Below.heap_setCell _ ⟨w.heap.size + 1, j, none⟩ _ _ (by show w.heap.size ≠ w.heap.size + 1; omega)).trans HQ1.out
        · exact HB1.out.setCell (p := ⟨w.heap.size + 1, j, none⟩) (by show w.heap.size ≤ w.heap.size + 1; omega) _
      case measure => simp [intOf]; omega
    · obtain rfl : j = 256 := by omega
      obtain ⟨ds, hds, hP⟩ := of_row HR1.out
      have hP := fillp_all hP
      have H1 := Lib.hid hds; have H2 := Lib.hid hP; have HI := Lib.hid (poly_sized hP)
      have HFT := Lib.hid (cen_fits bs)
      clear hds hP
      go_wp2_with (refine wpList_load_row rfl 26 (.tmp 4) rfl (w.heap.size + 1) rfl 26 ds (0, 0) _ H1.out Tryd.underlying26 rfl HI.out ?_)
      refine (Sm.rmod_any ds _ wr H2.out HFT.out).mono ?_
      rintro e' w5 ⟨xs, rfl, hD5, hB5⟩
      have HQ := Lib.hid ((hB5.block w.heap.size (Array.getElem?_eq_some_iff.1 HQ1.out).1).trans HQ1.out)
      have HB5 := Lib.hid (HB1.out.trans (hB5.mono HB1.out.size))
      have HD := Lib.hid hD5; have HI2 := Lib.hid (poly_sized hD5); have HM := Lib.hid (show Z.size = xs.size by rw [HZ.out.1, hD5.1])
      clear hD5 hB5
      go_wp2_with (refine wpList_store_row rfl 26 (.tmp 2) (.tmp 39) rfl w.heap.size xs rfl rfl 26 Z HQ.out HI2.out HM.out HD.out.cells ?_)
      refine bodyPost_ret (v := .tuple #[.agg xs, .int .i64 0]) (results_row_tmp (p := 2) (u := 3) (ty := 26) (by kernel_rfl) _ _ w.heap.size 26 xs (0, 0) _ rfl (setRow_heap _ _ _ _ _ _ HQ.out) Tryd.underlying26 rfl HI2.out) rfl ⟨xs, rfl, HD.out, below_setRow HB5.out (Nat.le_refl _) _⟩
set_option maxHeartbeats 2000000 in
set_option maxRecDepth 100000 in
theorem rcentred_no (A : Option Addr) (n c : Nat) (w : World) (hl : n ≠ 128) (hm : n ≤ 9223372036854775807) :
    Calls Tryd.prog 12 #[.slice A n c] w (PolyErr (fun _ => 0) 1 w) := by
  obtain ⟨Z, hz, hZ⟩ := zero_poly
  have HZ := Lib.hid hZ
  have e1 : (w.alloc (.cells Z 26)).heap.size = w.heap.size + 1 := by simp
  have g0 := (Below.heap_alloc (w.alloc (.cells Z 26)) (.cells Z 26) w.heap.size (by rw [e1]; omega)).trans (heap_alloc_last w (.cells Z 26))
  have g1 := heap_alloc_last (w.alloc (.cells Z 26)) (.cells Z 26)
  rw [e1] at g1
  have HG0 := Lib.hid g0; have HG1 := Lib.hid g1; have HI := Lib.hid (poly_sized hZ)
  have HB0 := Lib.hid (((Below.refl w.heap.size w).alloc (Nat.le_refl _) (.cells Z 26)).alloc (by simp) (.cells Z 26))
  have hne : ((n : Int) != 128) = true := by rw [bne_iff_ne]; omega
  clear hZ e1 g0 g1 hl
  go_enter Tryd.func12, Tryd.ntmps12
  go_wp2_with (first | (refine wpList_load_row rfl 26 (.tmp 4) rfl (w.heap.size + 1) rfl 26 Z (0, 0) _ HG1.out Tryd.underlying26 rfl HI.out ?_) | (refine wpList_store_row rfl 26 (.tmp 2) (.tmp 9) rfl w.heap.size Z rfl rfl 26 Z HG0.out HI.out rfl HZ.out.cells ?_))
  refine bodyPost_ret (v := .tuple #[.agg Z, .int .i64 1]) (results_row_tmp (p := 2) (u := 3) (ty := 26) (by kernel_rfl) _ _ w.heap.size 26 Z (0, 0) _ rfl (setRow_heap _ _ _ _ _ _ HG0.out) Tryd.underlying26 rfl HI.out) rfl ⟨Z, rfl, HZ.out, below_setRow HB0.out (Nat.le_refl _) _⟩
theorem rcentred_all (A : Option Addr) (bs : List Nat) (n c : Nat) (w : World) (hR : Kec.Rd w w.heap.size A bs) (hn : bs.length = n) (hm : n ≤ 9223372036854775807) :
    Calls Tryd.prog 12 #[.slice A n c] w (PolyErr (cenW bs) (cenE bs) w) := by
  by_cases hl : n = 128
  · have hV : cenE bs = 0 ∧ cenW bs = up (cenF bs) := by unfold cenE cenW; rw [hn, if_pos hl, if_pos hl]; exact ⟨rfl, rfl⟩
    rw [hV.1, hV.2]
    exact rcentred_ok A bs n c w hR hn hl
  · have hV : cenE bs = 1 ∧ cenW bs = fun _ => 0 := by unfold cenE cenW; rw [hn, if_neg hl, if_neg hl]; exact ⟨rfl, rfl⟩
    rw [hV.1, hV.2]
    exact rcentred_no A n c w hl hm
end Go.Proofs.YtdkhiooiakdecaaDoorR.Kp
