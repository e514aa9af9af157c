/- Walks of the document's own: NTT, Inverse. Written by tools/mk_smrefn.py. -/
import Derived.Test.YtjaaldkkfdfkcaaSmRefC
namespace Go.Proofs.Ytjaaldkkfdfkcaa.Sm
open Go.RowKit
set_option linter.all false

/-- what the document's transforms have about them -/
structure RN (w W : World) (Z : Array Value) (p : Nat → Int) (B : Nat) : Prop where
  row : W.rowIs B 23 256 (ints p)
  res : W.heap[w.heap.size + 1]? = some (.cells Z 23 (0, 0))
  below : Below w.heap.size w W
theorem partl_succ' {w : World} {g : Nat} {ty : TypeId} {L f : Nat → F} {n s t : Nat} (h : t < n) (hR : w.rowIs g ty 256 (ints (partl L f n s t))) {x y : F} (hx : L (s + t) = x) (hy : L (s + t + n) = y) :
    ((w.setCell ⟨g, s + t + n, none⟩ (.int .i64 (nv y))).setCell ⟨g, s + t, none⟩ (.int .i64 (nv x))).rowIs g ty 256 (ints (partl L f n s (t + 1))) :=
  row_is (row_set (row_set hR _ _) _ _) fun i _ => by
    unfold partl
    by_cases e2 : i = s + t
    · subst e2; rw [if_pos rfl, if_pos (by omega), hx]
    · rw [if_neg e2]
      by_cases e1 : i = s + t + n
      · subst e1; rw [if_pos rfl, if_pos (by omega), hy]
      · rw [if_neg e1]
        by_cases e3 : i < s ∨ (s ≤ i ∧ i < s + t) ∨ (s + n ≤ i ∧ i < s + n + t)
        · rw [if_pos e3, if_pos (by omega)]
        · rw [if_neg e3, if_neg (by omega)]
theorem RN.step {w W : World} {Z : Array Value} {L f : Nat → F} {n s t B : Nat} (h : RN w W Z (partl L f n s t) B) (ht : t < n) (hB : w.heap.size + 2 ≤ B) {x y : F} (hx : L (s + t) = x) (hy : L (s + t + n) = y) :
    RN w ((W.setCell ⟨B, s + t, none⟩ (.int .i64 (nv x))).setCell ⟨B, s + t + n, none⟩ (.int .i64 (nv y))) Z (partl L f n s (t + 1)) B :=
  ⟨partl_succ ht h.row hx hy, (Below.heap_setCell _ _ _ _ (by show w.heap.size + 1 ≠ B; omega)).trans ((Below.heap_setCell _ _ _ _ (by show w.heap.size + 1 ≠ B; omega)).trans h.res), (h.below.setCell (by show w.heap.size ≤ B; omega) _).setCell (by show w.heap.size ≤ B; omega) _⟩
theorem RN.step' {w W : World} {Z : Array Value} {L f : Nat → F} {n s t B : Nat} (h : RN w W Z (partl L f n s t) B) (ht : t < n) (hB : w.heap.size + 2 ≤ B) {x y : F} (hx : L (s + t) = x) (hy : L (s + t + n) = y) :
    RN w ((W.setCell ⟨B, s + t + n, none⟩ (.int .i64 (nv y))).setCell ⟨B, s + t, none⟩ (.int .i64 (nv x))) Z (partl L f n s (t + 1)) B :=
  ⟨partl_succ' ht h.row hx hy, (Below.heap_setCell _ _ _ _ (by show w.heap.size + 1 ≠ B; omega)).trans ((Below.heap_setCell _ _ _ _ (by show w.heap.size + 1 ≠ B; omega)).trans h.res), (h.below.setCell (by show w.heap.size ≤ B; omega) _).setCell (by show w.heap.size ≤ B; omega) _⟩
theorem zf_at (l b : Nat) (h : b < 2 ^ l) : zf l b = zv (2 ^ l + b) := by unfold zf; rw [Nat.mod_eq_of_lt h]
theorem zb_at (l b : Nat) (h : b < 2 ^ (6 - l)) : zb l b = zv (2 ^ (7 - l) - 1 - b) := by unfold zb; rw [Nat.mod_eq_of_lt h]
theorem pow_more : ∀ l, l < 7 → 2 ^ l + 2 ^ l = 2 ^ (l + 1) ∧ 2 ^ l + 2 ^ l ≤ 128 ∧ 1 ≤ 2 ^ l := by decide
theorem unscale_t (x : F) : (nv x * 3303).tmod 3329 = nv (3303 * x) := by
  have h := nv_lo x
  rw [Int.tmod_eq_emod_of_nonneg (by omega), ← nv_red, red_unscale]

set_option maxHeartbeats 4000000 in
set_option maxRecDepth 100000 in
theorem rntt_any (cs : Array Value) (p : Nat → Int) (w : World) (hP : IsP cs p) (hF : Fits p) :
    Calls Try.prog 17 #[.agg cs] w fun e w' => ∃ ds, e = .returned (.agg ds) ∧ IsP ds (up (ntt (redp p))) ∧ Below w.heap.size w w' := by
  have HP := Lib.hid hP; have HF := Lib.hid hF; clear hP hF
  obtain ⟨Z, hz, hZ⟩ := zero_poly
  have HZ := Lib.hid hZ; clear hZ
  have es : (w.alloc (.cells cs 23)).heap.size = w.heap.size + 1 := by simp
  have HA := Lib.hid ((Below.heap_alloc (w.alloc (.cells cs 23)) (.cells Z 23) w.heap.size (by rw [es]; omega)).trans (heap_alloc_last w (.cells cs 23)))
  have hr := heap_alloc_last (w.alloc (.cells cs 23)) (.cells Z 23)
  rw [es] at hr
  have HR := Lib.hid hr; clear hr es
  have HB := Lib.hid (((Below.refl w.heap.size w).alloc (Nat.le_refl _) (.cells cs 23)).alloc (by simp) (.cells Z 23))
  go_enter Try.func17, Try.ntmps17
  go_wp2_with (refine wpList_load_row rfl 23 (.tmp 1) rfl w.heap.size rfl 23 cs (0, 0) _ HA.out Try.underlying23 rfl (poly_sized HP.out) ?_)
  refine (rmod_any cs p _ HP.out HF.out).mono ?_
  rintro e w1 ⟨fs, rfl, hFs, hB1⟩
  have hs1 : w.heap.size + 2 ≤ w1.heap.size := by have := hB1.size; simpa using this
  have HFs := Lib.hid hFs
  have HM := Lib.hid (show Z.size = fs.size by rw [HZ.out.1, hFs.1])
  obtain ⟨A, hA⟩ : ∃ A, redp p = A := ⟨_, rfl⟩
  have HN : Hid (RN w (w1.alloc (.cells fs 23)) Z (up (nttTo 0 A)) w1.heap.size) := Lib.hid ⟨hA ▸ row_of (heap_alloc_last w1 (.cells fs 23)) hFs, (Below.heap_alloc w1 _ _ (by omega)).trans ((hB1.block _ (by simp)).trans HR.out), (HB.out.trans (hB1.mono (by simp; omega))).alloc (by omega) _⟩
  have HAE := Lib.hid hA
  clear hFs hB1 hA HR HB HA
  go_wp2_with (refine wpList_store_row rfl 23 (.tmp 3) (.tmp 11) rfl w1.heap.size fs rfl rfl 23 Z (heap_alloc_last w1 _) (poly_sized HFs.out) HM.out HFs.out.cells ?_; rw [World.setRow_alloc_new])
  obtain ⟨B, hBe⟩ : ∃ B, w1.heap.size = B := ⟨_, rfl⟩
  rw [hBe] at HN hs1
  rw [hBe]
  have HFAR := Lib.hid hs1
  clear hBe hz HM HFs hs1
  go_loopw [4, 5] (fun k i W => ∃ l n : Nat, l ≤ 7 ∧ Hid (n = nf l) ∧ 1 ≤ n ∧ n ≤ 128 ∧ i = .int .i64 n ∧ k = .int .i64 ((2 ^ l : Nat) : Int) ∧ Hid (RN w W Z (up (nttTo l A)) B)) (fun k i _ => (intOf i).toNat)
  case atStart => exact ⟨0, 128, by omega, Lib.hid (by decide), by omega, by omega, rfl, rfl, HN⟩
  case round =>
    clear HN
    obtain ⟨l, n, hl, HNF, hn1, hn2, rfl, rfl, HV⟩ := hrel
    by_cases hlt : l < 7
    · have hn3 : 2 ≤ n := by have := HNF.out; have := (nf_go l hlt).1; omega
      have hn4 : 2 * n ≤ 256 := by omega
      have hdn : decide ((n : Int) ≥ 2) = true := decide_eq_true (by omega)
      have e256 : 2 * n * 2 ^ l = 256 := by rw [HNF.out]; exact nf_whole l hlt
      have hm2 := (pow_more l hlt).2.1
      have hm1 := (pow_more l hlt).2.2
      have HK := Lib.hid (pow_more l hlt).1
      have HE := Lib.hid e256; clear e256
      obtain ⟨f, hf⟩ : ∃ f, nttTo l A = f := ⟨_, rfl⟩
      rw [hf] at HV
      obtain ⟨L, hL⟩ : ∃ L, nttTo (l + 1) A = L := ⟨_, rfl⟩
      have HL : Hid (lev ch0 (zf l) n f = L) := Lib.hid (by rw [← hL, ← hf, HNF.out]; rfl)
      have HLE := Lib.hid hL
      clear hf hL
      have HMM := Lib.hid (show 2 ^ l = 2 ^ l from rfl)
      obtain ⟨m, hm⟩ : ∃ m, 2 ^ l = m := ⟨_, rfl⟩
      obtain ⟨kk, hkk⟩ : ∃ kk, 2 ^ l = kk := ⟨_, rfl⟩
      have HMe := Lib.hid hm; have HKK := Lib.hid hkk
      have hkm : kk = m := by rw [← hkk, hm]
      rw [hm] at HE hm2 hm1
      rw [hkk]
      have HKM := Lib.hid hkm; clear hm hkk hkm HMM
      have HV0 : Hid (RN w wr Z (partl L f n 0 0) B) := by rw [partl_zero]; exact HV
      clear HV
      go_wp2
      go_loopw [4, 6] (fun k i W => ∃ b s : Nat, b ≤ m ∧ Hid (s = b * (2 * n)) ∧ s ≤ 256 ∧ i = .int .i64 s ∧ k = .int .i64 ((kk + b : Nat) : Int) ∧ Hid (RN w W Z (partl L f n s 0) B)) (fun k i _ => 256 - (intOf i).toNat)
      case atStart => exact ⟨0, 0, Nat.zero_le _, Lib.hid (by omega), by omega, rfl, rfl, HV0⟩
      case round =>
        clear HV0
        obtain ⟨b, s, hb, HS, hs256, rfl, rfl, HV⟩ := hrel
        by_cases hlb : b < m
        · have hroom : s + 2 * n ≤ 256 := by rw [HS.out]; exact mul_room hlb HE.out
          have hds : decide ((s : Int) < 256) = true := decide_eq_true (by omega)
          obtain ⟨kb, hkb⟩ : ∃ kb, kk + b = kb := ⟨_, rfl⟩
          have hkb1 : kb < 128 := by have := HKM.out; omega
          have htn := tn_lt kb
          have HZV : Hid (zf l b = pw (tn kb)) := Lib.hid (by rw [zf_at l b (by rw [HMe.out]; exact hlb), ← hkb, ← HKK.out]; rfl)
          have HKB := Lib.hid hkb
          rw [hkb]
          clear hkb
          go_wp2_with fail
          refine (rturned_any kb _ hkb1).mono ?_
          rintro e' w' ⟨rfl, rfl⟩
          go_wp2_with fail
          refine (rpower_any (tn kb) _ (by omega)).mono ?_
          rintro e' w' ⟨rfl, rfl⟩
          obtain ⟨zz, hzz⟩ : ∃ zz, pw (tn kb) = zz := ⟨_, rfl⟩
          rw [hzz]
          rw [hzz] at HZV
          clear hzz
          go_wp2
          go_loopw [8] (fun j W => ∃ t j' : Nat, t ≤ n ∧ Hid (j' = s + t) ∧ j = .int .i64 j' ∧ Hid (RN w W Z (partl L f n s t) B)) (fun j _ => 512 - (intOf j).toNat)
          case atStart => exact ⟨0, s, Nat.zero_le _, Lib.hid (by omega), rfl, HV⟩
          case round =>
            clear HV
            obtain ⟨t, j', ht, HJ, rfl, HV2⟩ := hrel
            by_cases hltt : t < n
            · have hj := HJ.out
              have hj1 : j' < s + n := by omega
              have hj2 : j' + n < 256 := by omega
              have hdj : decide ((j' : Int) < (s : Int) + (n : Int)) = true := decide_eq_true (by omega)
              obtain ⟨p1, p2⟩ := partl_low L f n s t hltt
              rw [← hj] at p1 p2
              have c1 := HV2.out.row.cell (i := j') (by omega)
              have c2 := HV2.out.row.cell (i := j' + n) (by omega)
              unfold ints at c1 c2
              rw [p1] at c1; rw [p2] at c2
              have d1 := HV2.out.row.frozen j'
              have d2 := HV2.out.row.frozen (j' + n)
              have q2 : ((j' : Int) + (n : Int)).toNat = j' + n := by omega
              have HX : Hid (L j' = (ch0 zz (f j') (f (j' + n))).1) := Lib.hid (by
                rw [hj, HS.out, ← HL.out, lev_lo _ _ _ _ b t hltt, HZV.out])
              have HY : Hid (L (j' + n) = (ch0 zz (f j') (f (j' + n))).2) := Lib.hid (by
                rw [hj, HS.out, show b * (2 * n) + t + n = b * (2 * n) + n + t by omega, ← HL.out, lev_hi _ _ _ _ b t hltt, HZV.out])
              clear hj
              obtain ⟨lo, hlo⟩ : ∃ lo, f j' = lo := ⟨_, rfl⟩
              obtain ⟨hi, hhi⟩ : ∃ hi, f (j' + n) = hi := ⟨_, rfl⟩
              rw [hlo] at c1; rw [hhi] at c2
              rw [hlo, hhi] at HX HY
              clear hlo hhi p1 p2
              have a1 := nv_lo lo; have a2 := nv_hi lo; have a3 := nv_lo hi; have a4 := nv_hi hi
              have m1 := mul_bd zz hi
              have q5 := mul_nv_t zz hi
              have a5 := nv_lo (zz * hi); have a6 := nv_hi (zz * hi)
              have c3 : (wr.setCell ⟨B, j' + n, none⟩ (.int .i64 (nv (lo - zz * hi)))).cell? ⟨B, j', none⟩ = some (.int .i64 (nv lo)) := by
                rw [World.cell?_setCell_other _ _ _ _ (by intro h; injection h; omega)]; exact c1
              go_wp2_with fail
              refine (rmod_is _ (lo - zz * hi) _ (red_sub_nv _ _) (by omega) (by omega)).mono ?_
              rintro e' w' ⟨rfl, rfl⟩
              go_wp2_with fail
              refine (rmod_is _ (lo + zz * hi) _ (red_add_nv _ _) (by omega) (by omega)).mono ?_
              rintro e' w' ⟨rfl, rfl⟩
              go_wp2
              go_roundw
              case rel => exact ⟨t + 1, j' + 1, by omega, Lib.hid (by have := HJ.out; omega), by go_num, Lib.hid (by have := HV2.out.step' hltt HFAR.out (x := lo + zz * hi) (y := lo - zz * hi) (by rw [← HJ.out, HX.out]; rfl) (by rw [← HJ.out, HY.out]; rfl); rw [← HJ.out] at this; exact this)⟩
              case measure => simp [intOf]; omega
            · obtain rfl : t = n := by omega
              have hj := HJ.out
              have hdj : decide ((j' : Int) < (s : Int) + (t : Int)) = false := decide_eq_false (by omega)
              have HJ' := Lib.hid hj
              clear hj
              go_wp2
              go_roundw
              case rel => exact ⟨b + 1, s + 2 * t, by omega, Lib.hid (by rw [Nat.add_mul, Nat.one_mul, ← HS.out]), by omega, by go_num, by rw [← HKB.out]; go_num, Lib.hid (by have := HV2.out; rw [partl_next] at this; exact this)⟩
              case measure => simp [intOf]; omega
        · obtain rfl : b = m := by omega
          have e256 : s = 256 := by rw [HS.out]; exact mul_end HE.out
          subst e256
          have HV3 : Hid (RN w wr Z (up (nttTo (l + 1) A)) B) := Lib.hid ⟨by rw [HLE.out]; exact partl_all HV.out.row, HV.out.res, HV.out.below⟩
          clear HV
          go_wp2
          go_roundw
          case rel => exact ⟨l + 1, n / 2, by omega, Lib.hid (by rw [(nf_go l hlt).2, HNF.out]), by omega, by omega, by go_num, by rw [HKM.out, ← HK.out, HMe.out], HV3⟩
          case measure => simp [intOf]; omega
    · obtain rfl : l = 7 := by omega
      have hn7 : n < 2 := by have := HNF.out; have h7 : nf 7 = 1 := by decide
                             omega
      obtain ⟨ds, hds, hD⟩ := of_row HV.out.row
      have H1 := Lib.hid hds; have H2 := Lib.hid (show IsP ds (up (ntt (redp p))) by rw [HAE.out]; exact hD); have H3 := Lib.hid (poly_sized hD); have H4 := Lib.hid (show Z.size = ds.size by rw [HZ.out.1, hD.1]); clear hds hD
      go_wp2_with (first | (refine wpList_load_row rfl 23 (.tmp 3) rfl B rfl 23 ds (0, 0) _ H1.out Try.underlying23 rfl H3.out ?_) | (refine wpList_store_row rfl 23 (.tmp 2) (.tmp 61) rfl (w.heap.size + 1) ds rfl rfl 23 Z HV.out.res H3.out H4.out H2.out.cells ?_))
      refine bodyPost_ret (v := .agg ds) (results_cell_row (p := 2) (ty := 23) (by kernel_rfl) _ _ (w.heap.size + 1) 23 ds (0, 0) _ rfl (setRow_heap _ _ _ _ _ _ HV.out.res) Try.underlying23 rfl H3.out) rfl ⟨ds, rfl, H2.out, below_setRow HV.out.below (by omega) _⟩

set_option maxHeartbeats 4000000 in
set_option maxRecDepth 100000 in
theorem rinv_any (cs : Array Value) (p : Nat → Int) (w : World) (hP : IsP cs p) (hF : Fits p) :
    Calls Try.prog 19 #[.agg cs] w fun e w' => ∃ ds, e = .returned (.agg ds) ∧ IsP ds (up (inv (redp p))) ∧ Below w.heap.size w w' := by
  have HP := Lib.hid hP; have HF := Lib.hid hF; clear hP hF
  obtain ⟨Z, hz, hZ⟩ := zero_poly
  have HZ := Lib.hid hZ; clear hZ
  have es : (w.alloc (.cells cs 23)).heap.size = w.heap.size + 1 := by simp
  have HA := Lib.hid ((Below.heap_alloc (w.alloc (.cells cs 23)) (.cells Z 23) w.heap.size (by rw [es]; omega)).trans (heap_alloc_last w (.cells cs 23)))
  have hr := heap_alloc_last (w.alloc (.cells cs 23)) (.cells Z 23)
  rw [es] at hr
  have HR := Lib.hid hr; clear hr es
  have HB := Lib.hid (((Below.refl w.heap.size w).alloc (Nat.le_refl _) (.cells cs 23)).alloc (by simp) (.cells Z 23))
  go_enter Try.func19, Try.ntmps19
  go_wp2_with (refine wpList_load_row rfl 23 (.tmp 1) rfl w.heap.size rfl 23 cs (0, 0) _ HA.out Try.underlying23 rfl (poly_sized HP.out) ?_)
  refine (rmod_any cs p _ HP.out HF.out).mono ?_
  rintro e w1 ⟨fs, rfl, hFs, hB1⟩
  have hs1 : w.heap.size + 2 ≤ w1.heap.size := by have := hB1.size; simpa using this
  have HFs := Lib.hid hFs
  have HM := Lib.hid (show Z.size = fs.size by rw [HZ.out.1, hFs.1])
  obtain ⟨A, hA⟩ : ∃ A, redp p = A := ⟨_, rfl⟩
  have HN : Hid (RN w (w1.alloc (.cells fs 23)) Z (up (invTo 0 A)) w1.heap.size) := Lib.hid ⟨hA ▸ row_of (heap_alloc_last w1 (.cells fs 23)) hFs, (Below.heap_alloc w1 _ _ (by omega)).trans ((hB1.block _ (by simp)).trans HR.out), (HB.out.trans (hB1.mono (by simp; omega))).alloc (by omega) _⟩
  have HAE := Lib.hid hA
  clear hFs hB1 hA HR HB HA
  go_wp2_with (refine wpList_store_row rfl 23 (.tmp 3) (.tmp 12) rfl w1.heap.size fs rfl rfl 23 Z (heap_alloc_last w1 _) (poly_sized HFs.out) HM.out HFs.out.cells ?_; rw [World.setRow_alloc_new])
  obtain ⟨B, hBe⟩ : ∃ B, w1.heap.size = B := ⟨_, rfl⟩
  rw [hBe] at HN hs1
  rw [hBe]
  have HFAR := Lib.hid hs1
  clear hBe hz HM HFs hs1
  go_loopw [4, 5] (fun k i W => ∃ l n : Nat, l ≤ 7 ∧ Hid (n = 2 ^ (l + 1)) ∧ 1 ≤ n ∧ n ≤ 256 ∧ i = .int .i64 n ∧ k = .int .i64 ((2 ^ (7 - l) - 1 : Nat) : Int) ∧ Hid (RN w W Z (up (invTo l A)) B)) (fun k i _ => 256 - (intOf i).toNat)
  case atStart => exact ⟨0, 2, by omega, Lib.hid (by decide), by omega, by omega, rfl, rfl, HN⟩
  case round =>
    clear HN
    obtain ⟨l, n, hl, HNF, hn1, hn2, rfl, rfl, HV⟩ := hrel
    by_cases hlt : l < 7
    · have hn3 : n ≤ 128 := by rw [HNF.out]; exact (back_bound l hlt).2.2.1
      have hn4 : 2 * n ≤ 256 := by omega
      have hdn : decide ((n : Int) ≤ 128) = true := decide_eq_true (by omega)
      have e256 : 2 * n * 2 ^ (6 - l) = 256 := by rw [HNF.out]; exact nb_whole l hlt
      have hm0 := (back_bound l hlt).1
      have hm2 := (back_bound l hlt).2.1
      have hm1 : 1 ≤ 2 ^ (6 - l) := Nat.two_pow_pos _
      have HK := Lib.hid (back_bound l hlt)
      have HE := Lib.hid e256; clear e256
      obtain ⟨f, hf⟩ : ∃ f, invTo l A = f := ⟨_, rfl⟩
      rw [hf] at HV
      obtain ⟨L, hL⟩ : ∃ L, invTo (l + 1) A = L := ⟨_, rfl⟩
      have HL : Hid (lev ch1 (zb l) n f = L) := Lib.hid (by rw [← hL, ← hf, HNF.out]; rfl)
      have HLE := Lib.hid hL
      clear hf hL
      have HMM := Lib.hid (show 2 ^ (7 - l) - 1 = 2 ^ (7 - l) - 1 from rfl)
      obtain ⟨m, hm⟩ : ∃ m, 2 ^ (6 - l) = m := ⟨_, rfl⟩
      obtain ⟨kk, hkk⟩ : ∃ kk, 2 ^ (7 - l) - 1 = kk := ⟨_, rfl⟩
      have HMe := Lib.hid hm; have HKK := Lib.hid hkk
      have hkm : kk + 1 = m + m := by rw [← hkk, ← hm, hm0]; have := Nat.two_pow_pos (7 - l); omega
      rw [hm] at HE hm1
      have hm3 : m + m ≤ 128 := by omega
      clear hm0 hm2
      rw [hkk]
      have HKM := Lib.hid hkm; clear hm hkk hkm HMM
      have HV0 : Hid (RN w wr Z (partl L f n 0 0) B) := by rw [partl_zero]; exact HV
      clear HV
      go_wp2
      go_loopw [4, 6] (fun k i W => ∃ b s : Nat, b ≤ m ∧ Hid (s = b * (2 * n)) ∧ s ≤ 256 ∧ i = .int .i64 s ∧ k = .int .i64 ((kk - b : Nat) : Int) ∧ Hid (RN w W Z (partl L f n s 0) B)) (fun k i _ => 256 - (intOf i).toNat)
      case atStart => exact ⟨0, 0, Nat.zero_le _, Lib.hid (by omega), by omega, rfl, rfl, HV0⟩
      case round =>
        clear HV0
        obtain ⟨b, s, hb, HS, hs256, rfl, rfl, HV⟩ := hrel
        by_cases hlb : b < m
        · have hroom : s + 2 * n ≤ 256 := by rw [HS.out]; exact mul_room hlb HE.out
          have hds : decide ((s : Int) < 256) = true := decide_eq_true (by omega)
          obtain ⟨kb, hkb⟩ : ∃ kb, kk - b = kb := ⟨_, rfl⟩
          have hkb1 : kb < 128 := by have := HKM.out; omega
          have hkb2 : 1 ≤ kb := by have := HKM.out; omega
          have htn := tn_lt kb
          have HZV : Hid (zb l b = pw (tn kb)) := Lib.hid (by rw [zb_at l b (by rw [HMe.out]; exact hlb), ← hkb, ← HKK.out]; rfl)
          have HKB := Lib.hid hkb
          rw [hkb]
          clear hkb
          go_wp2_with fail
          refine (rturned_any kb _ hkb1).mono ?_
          rintro e' w' ⟨rfl, rfl⟩
          go_wp2_with fail
          refine (rpower_any (tn kb) _ (by omega)).mono ?_
          rintro e' w' ⟨rfl, rfl⟩
          obtain ⟨zz, hzz⟩ : ∃ zz, pw (tn kb) = zz := ⟨_, rfl⟩
          rw [hzz]
          rw [hzz] at HZV
          clear hzz
          go_wp2
          go_loopw [8] (fun j W => ∃ t j' : Nat, t ≤ n ∧ Hid (j' = s + t) ∧ j = .int .i64 j' ∧ Hid (RN w W Z (partl L f n s t) B)) (fun j _ => 512 - (intOf j).toNat)
          case atStart => exact ⟨0, s, Nat.zero_le _, Lib.hid (by omega), rfl, HV⟩
          case round =>
            clear HV
            obtain ⟨t, j', ht, HJ, rfl, HV2⟩ := hrel
            by_cases hltt : t < n
            · have hj := HJ.out
              have hj1 : j' < s + n := by omega
              have hj2 : j' + n < 256 := by omega
              have hdj : decide ((j' : Int) < (s : Int) + (n : Int)) = true := decide_eq_true (by omega)
              obtain ⟨p1, p2⟩ := partl_low L f n s t hltt
              rw [← hj] at p1 p2
              have c1 := HV2.out.row.cell (i := j') (by omega)
              have c2 := HV2.out.row.cell (i := j' + n) (by omega)
              unfold ints at c1 c2
              rw [p1] at c1; rw [p2] at c2
              have d1 := HV2.out.row.frozen j'
              have d2 := HV2.out.row.frozen (j' + n)
              have q2 : ((j' : Int) + (n : Int)).toNat = j' + n := by omega
              have HX : Hid (L j' = (ch1 zz (f j') (f (j' + n))).1) := Lib.hid (by
                rw [hj, HS.out, ← HL.out, lev_lo _ _ _ _ b t hltt, HZV.out])
              have HY : Hid (L (j' + n) = (ch1 zz (f j') (f (j' + n))).2) := Lib.hid (by
                rw [hj, HS.out, show b * (2 * n) + t + n = b * (2 * n) + n + t by omega, ← HL.out, lev_hi _ _ _ _ b t hltt, HZV.out])
              clear hj
              obtain ⟨lo, hlo⟩ : ∃ lo, f j' = lo := ⟨_, rfl⟩
              obtain ⟨hi, hhi⟩ : ∃ hi, f (j' + n) = hi := ⟨_, rfl⟩
              rw [hlo] at c1; rw [hhi] at c2
              rw [hlo, hhi] at HX HY
              clear hlo hhi p1 p2
              have a1 := nv_lo lo; have a2 := nv_hi lo; have a3 := nv_lo hi; have a4 := nv_hi hi
              have m1 := msb_bd zz hi lo
              have c3 : (wr.setCell ⟨B, j', none⟩ (.int .i64 (nv (lo + hi)))).cell? ⟨B, j' + n, none⟩ = some (.int .i64 (nv hi)) := by
                rw [World.cell?_setCell_other _ _ _ _ (by intro h; injection h; omega)]; exact c2
              go_wp2_with fail
              refine (rmod_is _ (lo + hi) _ (red_add_nv _ _) (by omega) (by omega)).mono ?_
              rintro e' w' ⟨rfl, rfl⟩
              go_wp2_with fail
              refine (rmod_is _ (zz * (hi - lo)) _ (red_msb _ _ _) (by omega) (by omega)).mono ?_
              rintro e' w' ⟨rfl, rfl⟩
              go_wp2
              go_roundw
              case rel => exact ⟨t + 1, j' + 1, by omega, Lib.hid (by have := HJ.out; omega), by go_num, Lib.hid (by have := HV2.out.step hltt HFAR.out (x := lo + hi) (y := zz * (hi - lo)) (by rw [← HJ.out, HX.out]; rfl) (by rw [← HJ.out, HY.out]; rfl); rw [← HJ.out] at this; exact this)⟩
              case measure => simp [intOf]; omega
            · obtain rfl : t = n := by omega
              have hj := HJ.out
              have hdj : decide ((j' : Int) < (s : Int) + (t : Int)) = false := decide_eq_false (by omega)
              have HJ' := Lib.hid hj
              clear hj
              go_wp2
              go_roundw
              case rel => exact ⟨b + 1, s + 2 * t, by omega, Lib.hid (by rw [Nat.add_mul, Nat.one_mul, ← HS.out]), by omega, by go_num, by rw [← HKB.out]; (congr 1; have := HKM.out; omega), Lib.hid (by have := HV2.out; rw [partl_next] at this; exact this)⟩
              case measure => simp [intOf]; omega
        · obtain rfl : b = m := by omega
          have e256 : s = 256 := by rw [HS.out]; exact mul_end HE.out
          subst e256
          have HV3 : Hid (RN w wr Z (up (invTo (l + 1) A)) B) := Lib.hid ⟨by rw [HLE.out]; exact partl_all HV.out.row, HV.out.res, HV.out.below⟩
          clear HV
          go_wp2
          go_roundw
          case rel => exact ⟨l + 1, n * 2, by omega, Lib.hid (by rw [HK.out.2.2.2.1, HNF.out]), by omega, by omega, by go_num, by rw [HK.out.2.2.2.2.2, HMe.out]; congr 1; have := HKM.out; omega, HV3⟩
          case measure => simp [intOf]; omega
    · obtain rfl : l = 7 := by omega
      have hn7 : ¬ n ≤ 128 := by have := HNF.out; have h7 : 2 ^ (7 + 1) = 256 := by decide
                                 omega
      obtain ⟨f, hf⟩ : ∃ f, invTo 7 A = f := ⟨_, rfl⟩
      rw [hf] at HV
      have HV0 : Hid (RN w wr Z (partg (sc 3303 f) (up f) 0) B) := Lib.hid ⟨row_is HV.out.row (fun i _ => by unfold partg; rw [if_neg (by omega)]), HV.out.res, HV.out.below⟩
      have HFE : Hid (sc 3303 f = inv (redp p)) := Lib.hid (by rw [HAE.out, ← hf]; rfl)
      clear HV hf
      go_wp2
      go_loopw [10] (fun i W => ∃ k : Nat, k ≤ 256 ∧ i = .int .i64 k ∧ Hid (RN w W Z (partg (sc 3303 f) (up f) k) B)) (fun i _ => 256 - (intOf i).toNat)
      case atStart => exact ⟨0, by omega, rfl, HV0⟩
      case round =>
        clear HV0
        obtain ⟨k, hk, rfl, HV⟩ := hrel
        by_cases hlk : k < 256
        · have c1 := HV.out.row.cell (i := k) hlk
          have d1 := HV.out.row.frozen k
          unfold ints at c1
          rw [partg_at, up_at] at c1
          have a1 := nv_lo (f k); have a2 := nv_hi (f k)
          have q1 := unscale_t (f k)
          have HXX : Hid (sc 3303 f k = 3303 * f k) := Lib.hid rfl
          obtain ⟨x, hx⟩ : ∃ x, f k = x := ⟨_, rfl⟩
          rw [hx] at c1 a1 a2 q1 HXX
          clear hx
          go_wp2
          go_roundw
          case rel => exact ⟨k + 1, by omega, by go_num, Lib.hid ⟨partg_succ HXX.out HV.out.row, (Below.heap_setCell _ _ _ _ (by have := HFAR.out; show w.heap.size + 1 ≠ B; omega)).trans HV.out.res, HV.out.below.setCell (by have := HFAR.out; show w.heap.size ≤ B; omega) _⟩⟩
          case measure => simp [intOf]; omega
        · obtain rfl : k = 256 := by omega
          obtain ⟨ds, hds, hD⟩ := of_row HV.out.row
          have H1 := Lib.hid hds; have H2 := Lib.hid (show IsP ds (up (inv (redp p))) by rw [← HFE.out]; exact partg_all hD); have H3 := Lib.hid (poly_sized hD); have H4 := Lib.hid (show Z.size = ds.size by rw [HZ.out.1, hD.1]); clear hds hD
          go_wp2_with (first | (refine wpList_load_row rfl 23 (.tmp 3) rfl B rfl 23 ds (0, 0) _ H1.out Try.underlying23 rfl H3.out ?_) | (refine wpList_store_row rfl 23 (.tmp 2) (.tmp 74) rfl (w.heap.size + 1) ds rfl rfl 23 Z HV.out.res H3.out H4.out H2.out.cells ?_))
          refine bodyPost_ret (v := .agg ds) (results_cell_row (p := 2) (ty := 23) (by kernel_rfl) _ _ (w.heap.size + 1) 23 ds (0, 0) _ rfl (setRow_heap _ _ _ _ _ _ HV.out.res) Try.underlying23 rfl H3.out) rfl ⟨ds, rfl, H2.out, below_setRow HV.out.below (by omega) _⟩

end Go.Proofs.Ytjaaldkkfdfkcaa.Sm
