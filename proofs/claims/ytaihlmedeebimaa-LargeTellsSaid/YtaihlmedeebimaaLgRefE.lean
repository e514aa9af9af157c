/- Walks of the document's own: NTT, Inverse. Written by tools/mk_lgrefn.py. -/
import Derived.Test.YtaihlmedeebimaaLgRefC
namespace Go.Proofs.Ytaihlmedeebimaa.Lg
open Go.RowKit
set_option linter.all false

/-- what the document's transforms have about them -/
structure RN (w W : World) (Z : Array Value) (p : Nat → Int) (B P : Nat) : Prop where
  row : W.rowIs B 23 256 (ints p)
  pows : W.rowIs P 22 256 (ints zvi)
  res : W.heap[w.heap.size + 1]? = some (.cells Z 23 (0, 0))
  below : Below w.heap.size w W
theorem RN.drew {w W : World} {Z : Array Value} {p : Nat → Int} {B P : Nat} (h : RN w W Z p B P) : RN w W.drew Z p B P := ⟨h.row, h.pows, h.res, h.below.drew⟩
theorem partl_succ' {w : World} {g : Nat} {ty : TypeId} {L f : Nat → F} {n s t : Nat} (h : t < n) (hR : w.rowIs g ty 256 (ints (partl L f n s t))) {x y : F} (hx : L (s + t) = x) (hy : L (s + t + n) = y) :
    ((w.setCell ⟨g, s + t + n, none⟩ (.int .i64 (nv y))).setCell ⟨g, s + t, none⟩ (.int .i64 (nv x))).rowIs g ty 256 (ints (partl L f n s (t + 1))) :=
  row_is (row_set (row_set hR _ _) _ _) fun i _ => by
    unfold partl
    by_cases e2 : i = s + t
    · subst e2; rw [if_pos rfl, if_pos (by omega), hx]
    · rw [if_neg e2]
      by_cases e1 : i = s + t + n
      · subst e1; rw [if_pos rfl, if_pos (by omega), hy]
      · rw [if_neg e1]
        by_cases e3 : i < s ∨ (s ≤ i ∧ i < s + t) ∨ (s + n ≤ i ∧ i < s + n + t)
        · rw [if_pos e3, if_pos (by omega)]
        · rw [if_neg e3, if_neg (by omega)]
theorem RN.two {w W : World} {Z : Array Value} {p q : Nat → Int} {B P : Nat} (h : RN w W Z p B P) (hB : w.heap.size + 2 ≤ B) (hP : B < P) (i j : Nat) (u v : Value) (hr : ((W.setCell ⟨B, i, none⟩ u).setCell ⟨B, j, none⟩ v).rowIs B 23 256 (ints q)) :
    RN w ((W.setCell ⟨B, i, none⟩ u).setCell ⟨B, j, none⟩ v) Z q B P :=
  ⟨hr, (h.pows.setOther (a := ⟨B, i, none⟩) (by show P ≠ B; omega) u).setOther (a := ⟨B, j, none⟩) (by show P ≠ B; omega) v, (Below.heap_setCell _ _ _ _ (by show w.heap.size + 1 ≠ B; omega)).trans ((Below.heap_setCell _ _ _ _ (by show w.heap.size + 1 ≠ B; omega)).trans h.res), (h.below.setCell (by show w.heap.size ≤ B; omega) _).setCell (by show w.heap.size ≤ B; omega) _⟩
theorem RN.step {w W : World} {Z : Array Value} {L f : Nat → F} {n s t B P : Nat} (h : RN w W Z (partl L f n s t) B P) (ht : t < n) (hB : w.heap.size + 2 ≤ B) (hP : B < P) {x y : F} (hx : L (s + t) = x) (hy : L (s + t + n) = y) :
    RN w ((W.setCell ⟨B, s + t, none⟩ (.int .i64 (nv x))).setCell ⟨B, s + t + n, none⟩ (.int .i64 (nv y))) Z (partl L f n s (t + 1)) B P :=
  h.two hB hP _ _ _ _ (partl_succ ht h.row hx hy)
theorem RN.step' {w W : World} {Z : Array Value} {L f : Nat → F} {n s t B P : Nat} (h : RN w W Z (partl L f n s t) B P) (ht : t < n) (hB : w.heap.size + 2 ≤ B) (hP : B < P) {x y : F} (hx : L (s + t) = x) (hy : L (s + t + n) = y) :
    RN w ((W.setCell ⟨B, s + t + n, none⟩ (.int .i64 (nv y))).setCell ⟨B, s + t, none⟩ (.int .i64 (nv x))) Z (partl L f n s (t + 1)) B P :=
  h.two hB hP _ _ _ _ (partl_succ' ht h.row hx hy)
theorem zf_at (l b : Nat) (h : b < 2 ^ l) : zf l b = zv (2 ^ l + b) := by unfold zf; rw [Nat.mod_eq_of_lt h]
theorem zb_at (l b : Nat) (h : b < 2 ^ (7 - l)) : zb l b = - zv (2 ^ (8 - l) - 1 - b) := by unfold zb; rw [Nat.mod_eq_of_lt h]
theorem unscale_t (x : F) : (nv x * 8347681).tmod 8380417 = nv (8347681 * x) := by
  have h := nv_lo x
  have e : red 8347681 = 8347681 := by decide
  rw [Int.tmod_eq_emod_of_nonneg (by omega), ← nv_red, red_mul, red_nv, e]
  congr 1; grind

set_option maxHeartbeats 8000000 in
set_option maxRecDepth 100000 in
theorem rntt_any (cs : Array Value) (p : Nat → Int) (w : World) (hP : IsP cs p) (hF : Fits p) :
    Calls Try.prog 23 #[.agg cs] w fun e w' => ∃ ds, e = .returned (.agg ds) ∧ IsP ds (up (ntt (redp p))) ∧ Below w.heap.size w w' := by
  have HP := Lib.hid hP; have HF := Lib.hid hF; clear hP hF
  obtain ⟨Z, hz, hZ⟩ := zero_poly
  obtain ⟨Y, hy, hY1, hY2⟩ := zero_pow
  have HZ := Lib.hid hZ; have HY := Lib.hid hY1; clear hZ hY1 hY2
  have es : (w.alloc (.cells cs 23)).heap.size = w.heap.size + 1 := by simp
  have HA := Lib.hid ((Below.heap_alloc (w.alloc (.cells cs 23)) (.cells Z 23) w.heap.size (by rw [es]; omega)).trans (heap_alloc_last w (.cells cs 23)))
  have hr := heap_alloc_last (w.alloc (.cells cs 23)) (.cells Z 23)
  rw [es] at hr
  have HR := Lib.hid hr; clear hr es
  have HB := Lib.hid (((Below.refl w.heap.size w).alloc (Nat.le_refl _) (.cells cs 23)).alloc (by simp) (.cells Z 23))
  go_enter Try.func23, Try.ntmps23
  go_wp2_with (refine wpList_load_row rfl 23 (.tmp 1) rfl w.heap.size rfl 23 cs (0, 0) _ HA.out Try.underlying23 rfl (poly_sized HP.out) ?_)
  refine (rmod_any cs p _ HP.out HF.out).mono ?_
  rintro e w1 ⟨fs, rfl, hFs, hB1⟩
  have hs1 : w.heap.size + 2 ≤ w1.heap.size := by have := hB1.size; simpa using this
  have HFs := Lib.hid hFs
  have HM := Lib.hid (show Z.size = fs.size by rw [HZ.out.1, hFs.1])
  obtain ⟨A, hA⟩ : ∃ A, redp p = A := ⟨_, rfl⟩
  have HRW := Lib.hid (hA ▸ row_of (heap_alloc_last w1 (.cells fs 23)) hFs)
  have HRS := Lib.hid ((Below.heap_alloc w1 (.cells fs 23) _ (by omega)).trans ((hB1.block _ (by simp)).trans HR.out))
  have HBL := Lib.hid ((HB.out.trans (hB1.mono (by simp; omega))).alloc (by omega) (.cells fs 23))
  have hlt1 : w1.heap.size < (w1.alloc (.cells fs 23)).heap.size := by simp
  have HAE := Lib.hid hA
  clear hFs hB1 hA HR HB HA
  go_wp2_with (refine wpList_store_row rfl 23 (.tmp 3) (.tmp 11) rfl w1.heap.size fs rfl rfl 23 Z (heap_alloc_last w1 _) (poly_sized HFs.out) HM.out HFs.out.cells ?_; rw [World.setRow_alloc_new])
  refine (rroots_any _).mono ?_
  rintro e w2 ⟨zs, rfl, hZs, hB2⟩
  have HZs := Lib.hid hZs
  have hs2 : w1.heap.size < w2.heap.size := Nat.lt_of_lt_of_le hlt1 hB2.size
  have HN : Hid (RN w (w2.alloc (.cells zs 22)) Z (up (nttTo 0 A)) w1.heap.size w2.heap.size) := Lib.hid ⟨(HRW.out.of_block (hB2.block _ hlt1)).alloc _, ⟨zs, heap_alloc_last _ _, hZs.1, hZs.2⟩, (Below.heap_alloc w2 _ _ (by omega)).trans ((hB2.block _ (by omega)).trans HRS.out), (HBL.out.trans (hB2.mono (by omega))).alloc (by omega) _⟩
  have HMY := Lib.hid (show Y.size = zs.size by rw [HY.out, hZs.1])
  clear hZs hB2 HRW HRS HBL hlt1 HM
  go_wp2_with (refine wpList_store_row rfl 22 (.tmp 4) (.tmp 12) rfl w2.heap.size zs rfl rfl 22 Y (heap_alloc_last w2 _) (pow_sized HZs.out) HMY.out HZs.out.cells ?_; rw [World.setRow_alloc_new])
  obtain ⟨B, hBe⟩ : ∃ B, w1.heap.size = B := ⟨_, rfl⟩
  obtain ⟨P, hPe⟩ : ∃ P, w2.heap.size = P := ⟨_, rfl⟩
  rw [hBe, hPe] at HN
  rw [hBe] at hs1 hs2
  rw [hPe] at hs2
  rw [hBe, hPe]
  have HFAR := Lib.hid hs1; have HBP := Lib.hid hs2
  clear hBe hPe hz hy HFs HZs HMY HY HP HF
  go_loopw [5, 6] (fun k i W => ∃ l n : Nat, l ≤ 8 ∧ Hid (n = nf l) ∧ n ≤ 128 ∧ i = .int .i64 n ∧ k = .int .i64 ((2 ^ l - 1 : Nat) : Int) ∧ Hid (RN w W Z (up (nttTo l A)) B P)) (fun k i _ => (intOf i).toNat)
  case atStart => exact ⟨0, 128, by omega, Lib.hid (by decide), by omega, rfl, rfl, HN⟩
  case round =>
    clear HN hs1 hs2
    obtain ⟨l, n, hl, HNF, hn2, rfl, rfl, HV⟩ := hrel
    by_cases hlt : l < 8
    · have hn3 : 1 ≤ n := by have := HNF.out; have := (nf_go l hlt).1; omega
      have hn4 : 2 * n ≤ 256 := by omega
      have hdn : decide ((n : Int) ≥ 1) = true := decide_eq_true (by omega)
      have e256 : 2 * n * 2 ^ l = 256 := by rw [HNF.out]; exact nf_whole l hlt
      have hpb := pow_bound l hlt
      have HE := Lib.hid e256; clear e256
      obtain ⟨f, hf⟩ : ∃ f, nttTo l A = f := ⟨_, rfl⟩
      rw [hf] at HV
      obtain ⟨L, hL⟩ : ∃ L, nttTo (l + 1) A = L := ⟨_, rfl⟩
      have HL : Hid (lev ch0 (zf l) n f = L) := Lib.hid (by rw [← hL, ← hf, HNF.out]; rfl)
      have HLE := Lib.hid hL
      clear hf hL
      obtain ⟨m, hm⟩ : ∃ m, 2 ^ l = m := ⟨_, rfl⟩
      have HMe := Lib.hid hm
      rw [hm] at hpb HE
      rw [hm]
      have HK := Lib.hid hpb.2.2
      have hm2 : m - 1 + m ≤ 255 := hpb.1
      have hm1 : 1 ≤ m := hpb.2.1
      clear hm hpb
      obtain ⟨kk, hkk⟩ : ∃ kk, m - 1 = kk := ⟨_, rfl⟩
      have hkm : kk + 1 = m := by omega
      rw [hkk]
      rw [hkk] at hm2 HK
      clear hkk
      have HKM := Lib.hid hkm; clear hkm
      have HV0 : Hid (RN w wr Z (partl L f n 0 0) B P) := by rw [partl_zero]; exact HV
      clear HV
      go_wp2
      go_loopw [5, 7] (fun k i W => ∃ b s : Nat, b ≤ m ∧ Hid (s = b * (2 * n)) ∧ s ≤ 256 ∧ i = .int .i64 s ∧ k = .int .i64 ((kk + b : Nat) : Int) ∧ Hid (RN w W Z (partl L f n s 0) B P)) (fun k i _ => 256 - (intOf i).toNat)
      case atStart => exact ⟨0, 0, Nat.zero_le _, Lib.hid (by omega), by omega, rfl, rfl, HV0⟩
      case round =>
        clear HV0
        obtain ⟨b, s, hb, HS, hs256, rfl, rfl, HV⟩ := hrel
        by_cases hlb : b < m
        · have hroom : s + 2 * n ≤ 256 := by rw [HS.out]; exact mul_room hlb HE.out
          have hds : decide ((s : Int) < 256) = true := decide_eq_true (by omega)
          obtain ⟨kb, hkb⟩ : ∃ kb, kk + b + 1 = kb := ⟨_, rfl⟩
          have hkb1 : kb < 256 := by have := HKM.out; omega
          have HZV : Hid (zf l b = zv kb) := Lib.hid (by rw [zf_at l b (by rw [HMe.out]; exact hlb), HMe.out, ← hkb]; congr 1; have := HKM.out; omega)
          obtain ⟨ka, hka⟩ : ∃ ka, kk + b = ka := ⟨_, rfl⟩
          have hkc : (ka : Int) + 1 = (kb : Int) := by omega
          have hki : (ka : Int) + 1 ≤ 255 := by omega
          rw [hka]
          clear hka
          have hkw : IntKind.i64.wrap (kb : Int) = (kb : Int) := IntWalk.i64_in _ (by omega)
          have HKB := Lib.hid hkb
          clear hkb
          go_wp2
          go_loopw [8] (fun j W => ∃ t j' : Nat, t ≤ n ∧ Hid (j' = s + t) ∧ j = .int .i64 j' ∧ Hid (RN w W Z (partl L f n s t) B P)) (fun j _ => 512 - (intOf j).toNat)
          case atStart => exact ⟨0, s, Nat.zero_le _, Lib.hid (by omega), rfl, HV⟩
          case round =>
            clear HV
            obtain ⟨t, j', ht, HJ, rfl, HV2⟩ := hrel
            by_cases hltt : t < n
            · have hj := HJ.out
              have hj1 : j' < s + n := by omega
              have hj2 : j' + n < 256 := by omega
              have hdj : decide ((j' : Int) < (s : Int) + (n : Int)) = true := decide_eq_true (by omega)
              obtain ⟨p1, p2⟩ := partl_low L f n s t hltt
              rw [← hj] at p1 p2
              have c1 := HV2.out.row.cell (i := j') (by omega)
              have c2 := HV2.out.row.cell (i := j' + n) (by omega)
              have cz := HV2.out.pows.cell (i := kb) hkb1
              unfold ints at c1 c2 cz
              unfold zvi at cz
              rw [p1] at c1; rw [p2] at c2
              have d1 := HV2.out.row.frozen j'
              have d2 := HV2.out.row.frozen (j' + n)
              have q2 : ((j' : Int) + (n : Int)).toNat = j' + n := by omega
              have q6 : IntKind.i64.wrap ((j' : Int) + (n : Int)) = (j' : Int) + (n : Int) := IntWalk.i64_in _ (by omega)
              have q7 : (0 : Int) ≤ (j' : Int) + (n : Int) := by omega
              have q8 : (j' : Int) + (n : Int) < 256 := by omega
              have q9 : (kb : Int) < 256 := by omega
              have q10 : (0 : Int) ≤ (kb : Int) := by omega
              obtain ⟨zz, hzz⟩ : ∃ zz, zv kb = zz := ⟨_, rfl⟩
              have HX : Hid (L j' = (ch0 zz (f j') (f (j' + n))).1) := Lib.hid (by
                rw [hj, HS.out, ← HL.out, lev_lo _ _ _ _ b t hltt, HZV.out, hzz])
              have HY : Hid (L (j' + n) = (ch0 zz (f j') (f (j' + n))).2) := Lib.hid (by
                rw [hj, HS.out, show b * (2 * n) + t + n = b * (2 * n) + n + t by omega, ← HL.out, lev_hi _ _ _ _ b t hltt, HZV.out, hzz])
              rw [hzz] at cz
              clear hj hzz
              obtain ⟨lo, hlo⟩ : ∃ lo, f j' = lo := ⟨_, rfl⟩
              obtain ⟨hi, hhi⟩ : ∃ hi, f (j' + n) = hi := ⟨_, rfl⟩
              rw [hlo] at c1; rw [hhi] at c2
              rw [hlo, hhi] at HX HY
              clear hlo hhi p1 p2
              have m1 := mul_bd zz hi
              have q5 := mul_nv_t zz hi
              have q4 : IntKind.i64.wrap (nv zz * nv hi) = nv zz * nv hi := IntWalk.i64_in _ (by omega)
              have HR1 := Lib.hid (red_sub_nv lo (zz * hi)); have HR2 := Lib.hid (red_add_nv lo (zz * hi))
              have HCX : Hid ((ch0 zz lo hi).1 = lo + zz * hi ∧ (ch0 zz lo hi).2 = lo - zz * hi) := Lib.hid ⟨rfl, rfl⟩
              have a1 := nv_lo lo; have a2 := nv_hi lo; have a5 := nv_lo (zz * hi); have a6 := nv_hi (zz * hi)
              obtain ⟨T, hT⟩ : ∃ T, nv (zz * hi) = T := ⟨_, rfl⟩
              rw [hT] at HR1 HR2 q5 a5 a6
              clear hT
              obtain ⟨x, hx⟩ : ∃ x, lo + zz * hi = x := ⟨_, rfl⟩
              obtain ⟨y, hy⟩ : ∃ y, lo - zz * hi = y := ⟨_, rfl⟩
              rw [hx] at HR2 HCX; rw [hy] at HR1 HCX
              clear hx hy
              have q3 : IntKind.i64.wrap T = T := IntWalk.i64_in _ (by omega)
              have HC1 := Lib.hid c1; have HC2 := Lib.hid c2; have HD1 := Lib.hid d1; have HD2 := Lib.hid d2
              clear c1 d1 d2
              go_wp2
              refine wp_region_still_tail 10 (by kernel_rfl) (by kernel_rfl) ?_
              simp only [List.take_succ_cons, List.take_zero, List.drop_succ_cons, List.drop_zero]
              repeat still_step
              refine wpStill_nil ?_
              change wpList _ _ _ _ _ wr.drew
              have HV3 := Lib.hid HV2.out.drew
              have c1 : wr.drew.cell? ⟨B, j', none⟩ = some (.int .i64 (nv lo)) := HC1.out
              have d1 : wr.drew.frozen? ⟨B, j', none⟩ = false := HD1.out
              have d2 : wr.drew.frozen? ⟨B, j' + n, none⟩ = false := HD2.out
              have c4 : wr.drew.cell? ⟨B, j' + n, none⟩ = some (.int .i64 (nv hi)) := HC2.out
              generalize wr.drew = wM at *
              clear c2 cz m1 q5 q4
              have c3 : (wM.setCell ⟨B, j' + n, none⟩ (.int .i64 (nv y))).cell? ⟨B, j', none⟩ = some (.int .i64 (nv lo)) := by
                rw [World.cell?_setCell_other _ _ _ _ (by intro h; injection h; omega)]; exact c1
              go_wp2_with fail
              refine (rmod_is _ y _ HR1.out (by omega) (by omega)).mono ?_
              rintro e' w' ⟨rfl, rfl⟩
              go_wp2_with fail
              refine (rmod_is _ x _ HR2.out (by omega) (by omega)).mono ?_
              rintro e' w' ⟨rfl, rfl⟩
              go_wp2
              go_roundw
              case rel => exact ⟨t + 1, j' + 1, by omega, Lib.hid (by have := HJ.out; omega), by go_num, Lib.hid (by have := HV3.out.step' hltt HFAR.out HBP.out (x := x) (y := y) (by rw [← HJ.out, HX.out, HCX.out.1]) (by rw [← HJ.out, HY.out, HCX.out.2]); rw [← HJ.out] at this; exact this)⟩
              case measure => simp [intOf]; omega
            · obtain rfl : t = n := by omega
              have hj := HJ.out
              have hdj : decide ((j' : Int) < (s : Int) + (t : Int)) = false := decide_eq_false (by omega)
              have HJ' := Lib.hid hj
              clear hj
              go_wp2
              go_roundw
              case rel => exact ⟨b + 1, s + 2 * t, by omega, Lib.hid (by rw [Nat.add_mul, Nat.one_mul, ← HS.out]), by omega, by go_num, by rw [← HKB.out]; rfl, Lib.hid (by have := HV2.out; rw [partl_next] at this; exact this)⟩
              case measure => simp [intOf]; omega
        · obtain rfl : b = m := by omega
          have e256 : s = 256 := by rw [HS.out]; exact mul_end HE.out
          subst e256
          have HV3 : Hid (RN w wr Z (up (nttTo (l + 1) A)) B P) := Lib.hid ⟨by rw [HLE.out]; exact partl_all HV.out.row, HV.out.pows, HV.out.res, HV.out.below⟩
          clear HV
          go_wp2
          go_roundw
          case rel => exact ⟨l + 1, n / 2, by omega, Lib.hid (by rw [(nf_go l hlt).2, HNF.out]), by omega, by go_num, by rw [HK.out], HV3⟩
          case measure => simp [intOf]; omega
    · obtain rfl : l = 8 := by omega
      have hn7 : n = 0 := by rw [HNF.out]; decide
      subst hn7
      obtain ⟨ds, hds, hD⟩ := of_row HV.out.row
      have H1 := Lib.hid hds; have H2 := Lib.hid (show IsP ds (up (ntt (redp p))) by rw [HAE.out]; exact hD); have H3 := Lib.hid (poly_sized hD); have H4 := Lib.hid (show Z.size = ds.size by rw [HZ.out.1, hD.1]); clear hds hD
      have hfar := HFAR.out
      go_wp2_with (first | (refine wpList_load_row rfl 23 (.tmp 3) rfl B rfl 23 ds (0, 0) _ H1.out Try.underlying23 rfl H3.out ?_) | (refine wpList_store_row rfl 23 (.tmp 2) (.tmp 61) rfl (w.heap.size + 1) ds rfl rfl 23 Z HV.out.res H3.out H4.out H2.out.cells ?_))
      refine bodyPost_ret (v := .agg ds) (results_cell_row (p := 2) (ty := 23) (by kernel_rfl) _ _ (w.heap.size + 1) 23 ds (0, 0) _ rfl (setRow_heap _ _ _ _ _ _ HV.out.res) Try.underlying23 rfl H3.out) rfl ⟨ds, rfl, H2.out, below_setRow HV.out.below (by omega) _⟩

set_option maxHeartbeats 8000000 in
set_option maxRecDepth 100000 in
theorem rinv_any (cs : Array Value) (p : Nat → Int) (w : World) (hP : IsP cs p) (hF : Fits p) :
    Calls Try.prog 25 #[.agg cs] w fun e w' => ∃ ds, e = .returned (.agg ds) ∧ IsP ds (up (inv (redp p))) ∧ Below w.heap.size w w' := by
  have HP := Lib.hid hP; have HF := Lib.hid hF; clear hP hF
  obtain ⟨Z, hz, hZ⟩ := zero_poly
  obtain ⟨Y, hy, hY1, hY2⟩ := zero_pow
  have HZ := Lib.hid hZ; have HY := Lib.hid hY1; clear hZ hY1 hY2
  have es : (w.alloc (.cells cs 23)).heap.size = w.heap.size + 1 := by simp
  have HA := Lib.hid ((Below.heap_alloc (w.alloc (.cells cs 23)) (.cells Z 23) w.heap.size (by rw [es]; omega)).trans (heap_alloc_last w (.cells cs 23)))
  have hr := heap_alloc_last (w.alloc (.cells cs 23)) (.cells Z 23)
  rw [es] at hr
  have HR := Lib.hid hr; clear hr es
  have HB := Lib.hid (((Below.refl w.heap.size w).alloc (Nat.le_refl _) (.cells cs 23)).alloc (by simp) (.cells Z 23))
  go_enter Try.func25, Try.ntmps25
  go_wp2_with (refine wpList_load_row rfl 23 (.tmp 1) rfl w.heap.size rfl 23 cs (0, 0) _ HA.out Try.underlying23 rfl (poly_sized HP.out) ?_)
  refine (rmod_any cs p _ HP.out HF.out).mono ?_
  rintro e w1 ⟨fs, rfl, hFs, hB1⟩
  have hs1 : w.heap.size + 2 ≤ w1.heap.size := by have := hB1.size; simpa using this
  have HFs := Lib.hid hFs
  have HM := Lib.hid (show Z.size = fs.size by rw [HZ.out.1, hFs.1])
  obtain ⟨A, hA⟩ : ∃ A, redp p = A := ⟨_, rfl⟩
  have HRW := Lib.hid (hA ▸ row_of (heap_alloc_last w1 (.cells fs 23)) hFs)
  have HRS := Lib.hid ((Below.heap_alloc w1 (.cells fs 23) _ (by omega)).trans ((hB1.block _ (by simp)).trans HR.out))
  have HBL := Lib.hid ((HB.out.trans (hB1.mono (by simp; omega))).alloc (by omega) (.cells fs 23))
  have hlt1 : w1.heap.size < (w1.alloc (.cells fs 23)).heap.size := by simp
  have HAE := Lib.hid hA
  clear hFs hB1 hA HR HB HA
  go_wp2_with (refine wpList_store_row rfl 23 (.tmp 3) (.tmp 12) rfl w1.heap.size fs rfl rfl 23 Z (heap_alloc_last w1 _) (poly_sized HFs.out) HM.out HFs.out.cells ?_; rw [World.setRow_alloc_new])
  refine (rroots_any _).mono ?_
  rintro e w2 ⟨zs, rfl, hZs, hB2⟩
  have HZs := Lib.hid hZs
  have hs2 : w1.heap.size < w2.heap.size := Nat.lt_of_lt_of_le hlt1 hB2.size
  have HN : Hid (RN w (w2.alloc (.cells zs 22)) Z (up (invTo 0 A)) w1.heap.size w2.heap.size) := Lib.hid ⟨(HRW.out.of_block (hB2.block _ hlt1)).alloc _, ⟨zs, heap_alloc_last _ _, hZs.1, hZs.2⟩, (Below.heap_alloc w2 _ _ (by omega)).trans ((hB2.block _ (by omega)).trans HRS.out), (HBL.out.trans (hB2.mono (by omega))).alloc (by omega) _⟩
  have HMY := Lib.hid (show Y.size = zs.size by rw [HY.out, hZs.1])
  clear hZs hB2 HRW HRS HBL hlt1 HM
  go_wp2_with (refine wpList_store_row rfl 22 (.tmp 4) (.tmp 13) rfl w2.heap.size zs rfl rfl 22 Y (heap_alloc_last w2 _) (pow_sized HZs.out) HMY.out HZs.out.cells ?_; rw [World.setRow_alloc_new])
  obtain ⟨B, hBe⟩ : ∃ B, w1.heap.size = B := ⟨_, rfl⟩
  obtain ⟨P, hPe⟩ : ∃ P, w2.heap.size = P := ⟨_, rfl⟩
  rw [hBe, hPe] at HN
  rw [hBe] at hs1 hs2
  rw [hPe] at hs2
  rw [hBe, hPe]
  have HFAR := Lib.hid hs1; have HBP := Lib.hid hs2
  clear hBe hPe hz hy HFs HZs HMY HY HP HF
  go_loopw [5, 6] (fun k i W => ∃ l n : Nat, l ≤ 8 ∧ Hid (n = 2 ^ l) ∧ 1 ≤ n ∧ n ≤ 256 ∧ i = .int .i64 n ∧ k = .int .i64 ((2 ^ (8 - l) : Nat) : Int) ∧ Hid (RN w W Z (up (invTo l A)) B P)) (fun k i _ => 256 - (intOf i).toNat)
  case atStart => exact ⟨0, 1, by omega, Lib.hid (by decide), by omega, by omega, rfl, rfl, HN⟩
  case round =>
    clear HN hs1 hs2
    obtain ⟨l, n, hl, HNF, hn1, hn2, rfl, rfl, HV⟩ := hrel
    by_cases hlt : l < 8
    · have hbb := back_bound l hlt
      have hn3 : n ≤ 128 := by rw [HNF.out]; exact hbb.2.2.1
      have hn4 : 2 * n ≤ 256 := by omega
      have hdn : decide ((n : Int) ≤ 128) = true := decide_eq_true (by omega)
      have e256 : 2 * n * 2 ^ (7 - l) = 256 := by rw [HNF.out]; exact nb_whole l hlt
      have HK := Lib.hid (back_bound l hlt)
      have HE := Lib.hid e256; clear e256
      obtain ⟨f, hf⟩ : ∃ f, invTo l A = f := ⟨_, rfl⟩
      rw [hf] at HV
      obtain ⟨L, hL⟩ : ∃ L, invTo (l + 1) A = L := ⟨_, rfl⟩
      have HL : Hid (lev ch1 (zb l) n f = L) := Lib.hid (by rw [← hL, ← hf, HNF.out]; rfl)
      have HLE := Lib.hid hL
      clear hf hL
      obtain ⟨m, hm⟩ : ∃ m, 2 ^ (7 - l) = m := ⟨_, rfl⟩
      obtain ⟨kk, hkk⟩ : ∃ kk, 2 ^ (8 - l) = kk := ⟨_, rfl⟩
      have HMe := Lib.hid hm; have HKK := Lib.hid hkk
      have hkm : kk = m + m := by rw [← hkk, ← hm, hbb.1]
      have hk256 : kk ≤ 256 := by rw [← hkk]; exact hbb.2.1
      rw [hm] at HE
      rw [hkk]
      have HKM := Lib.hid hkm; clear hm hkk hkm hbb
      have HV0 : Hid (RN w wr Z (partl L f n 0 0) B P) := by rw [partl_zero]; exact HV
      clear HV
      go_wp2
      go_loopw [5, 7] (fun k i W => ∃ b s : Nat, b ≤ m ∧ Hid (s = b * (2 * n)) ∧ s ≤ 256 ∧ i = .int .i64 s ∧ k = .int .i64 ((kk - b : Nat) : Int) ∧ Hid (RN w W Z (partl L f n s 0) B P)) (fun k i _ => 256 - (intOf i).toNat)
      case atStart => exact ⟨0, 0, Nat.zero_le _, Lib.hid (by omega), by omega, rfl, rfl, HV0⟩
      case round =>
        clear HV0
        obtain ⟨b, s, hb, HS, hs256, rfl, rfl, HV⟩ := hrel
        by_cases hlb : b < m
        · have hroom : s + 2 * n ≤ 256 := by rw [HS.out]; exact mul_room hlb HE.out
          have hds : decide ((s : Int) < 256) = true := decide_eq_true (by omega)
          obtain ⟨kb, hkb⟩ : ∃ kb, kk - 1 - b = kb := ⟨_, rfl⟩
          have hkb1 : kb < 256 := by have := HKM.out; omega
          have hkc0 : kk - b = kb + 1 := by have := HKM.out; omega
          have HZV : Hid (zb l b = - zv kb) := Lib.hid (by rw [zb_at l b (by rw [HMe.out]; exact hlb), HKK.out, ← hkb])
          obtain ⟨ka, hka⟩ : ∃ ka, kk - b = ka := ⟨_, rfl⟩
          have hkc : (ka : Int) - 1 = (kb : Int) := by omega
          rw [hka]
          clear hka
          have hkw : IntKind.i64.wrap (kb : Int) = (kb : Int) := IntWalk.i64_in _ (by omega)
          have HKB := Lib.hid hkc0
          clear hkb hkc0
          go_wp2
          go_loopw [8] (fun j W => ∃ t j' : Nat, t ≤ n ∧ Hid (j' = s + t) ∧ j = .int .i64 j' ∧ Hid (RN w W Z (partl L f n s t) B P)) (fun j _ => 512 - (intOf j).toNat)
          case atStart => exact ⟨0, s, Nat.zero_le _, Lib.hid (by omega), rfl, HV⟩
          case round =>
            clear HV
            obtain ⟨t, j', ht, HJ, rfl, HV2⟩ := hrel
            by_cases hltt : t < n
            · have hj := HJ.out
              have hj1 : j' < s + n := by omega
              have hj2 : j' + n < 256 := by omega
              have hdj : decide ((j' : Int) < (s : Int) + (n : Int)) = true := decide_eq_true (by omega)
              obtain ⟨p1, p2⟩ := partl_low L f n s t hltt
              rw [← hj] at p1 p2
              have c1 := HV2.out.row.cell (i := j') (by omega)
              have c2 := HV2.out.row.cell (i := j' + n) (by omega)
              have cz := HV2.out.pows.cell (i := kb) hkb1
              unfold ints at c1 c2 cz
              unfold zvi at cz
              rw [p1] at c1; rw [p2] at c2
              have d1 := HV2.out.row.frozen j'
              have d2 := HV2.out.row.frozen (j' + n)
              have q2 : ((j' : Int) + (n : Int)).toNat = j' + n := by omega
              have q6 : IntKind.i64.wrap ((j' : Int) + (n : Int)) = (j' : Int) + (n : Int) := IntWalk.i64_in _ (by omega)
              have q7 : (0 : Int) ≤ (j' : Int) + (n : Int) := by omega
              have q8 : (j' : Int) + (n : Int) < 256 := by omega
              have q9 : (kb : Int) < 256 := by omega
              have q10 : (0 : Int) ≤ (kb : Int) := by omega
              have hnr := near_neg (zv kb)
              obtain ⟨zz, hzz⟩ : ∃ zz, - zv kb = zz := ⟨_, rfl⟩
              have HX : Hid (L j' = (ch1 zz (f j') (f (j' + n))).1) := Lib.hid (by
                rw [hj, HS.out, ← HL.out, lev_lo _ _ _ _ b t hltt, HZV.out, hzz])
              have HY : Hid (L (j' + n) = (ch1 zz (f j') (f (j' + n))).2) := Lib.hid (by
                rw [hj, HS.out, show b * (2 * n) + t + n = b * (2 * n) + n + t by omega, ← HL.out, lev_hi _ _ _ _ b t hltt, HZV.out, hzz])
              rw [hzz] at hnr
              clear hj hzz
              have n1 := nv_lo (zv kb); have n2 := nv_hi (zv kb)
              obtain ⟨zi, hzi⟩ : ∃ zi, nv (zv kb) = zi := ⟨_, rfl⟩
              rw [hzi] at cz hnr n1 n2
              clear hzi
              obtain ⟨lo, hlo⟩ : ∃ lo, f j' = lo := ⟨_, rfl⟩
              obtain ⟨hi, hhi⟩ : ∃ hi, f (j' + n) = hi := ⟨_, rfl⟩
              rw [hlo] at c1; rw [hhi] at c2
              rw [hlo, hhi] at HX HY
              clear hlo hhi p1 p2
              have HN2 := Lib.hid (near_mul hnr (near_sub lo hi))
              have HR2 := Lib.hid (red_add_nv lo hi)
              have HCX : Hid ((ch1 zz lo hi).1 = lo + hi ∧ (ch1 zz lo hi).2 = zz * (lo - hi)) := Lib.hid ⟨rfl, rfl⟩
              have a1 := nv_lo lo; have a2 := nv_hi lo; have a3 := nv_lo hi; have a4 := nv_hi hi
              obtain ⟨x, hx⟩ : ∃ x, lo + hi = x := ⟨_, rfl⟩
              obtain ⟨y, hy⟩ : ∃ y, zz * (lo - hi) = y := ⟨_, rfl⟩
              rw [hx] at HR2 HCX; rw [hy] at HN2 HCX
              clear hx hy hnr
              obtain ⟨u, hu⟩ : ∃ u, nv lo = u := ⟨_, rfl⟩
              obtain ⟨v, hv⟩ : ∃ v, nv hi = v := ⟨_, rfl⟩
              rw [hu, hv] at HN2 HR2
              rw [hu] at c1 a1 a2
              rw [hv] at c2 a3 a4
              clear hu hv
              have q1 : IntKind.i64.wrap (u - v) = u - v := IntWalk.i64_in _ (by omega)
              have q3 : IntKind.i64.wrap (-zi) = -zi := IntWalk.i64_in _ (by omega)
              have q4 : IntKind.i64.wrap (-zi * (u - v)) = -zi * (u - v) := IntWalk.i64_in _ (by have := HN2.out; omega)
              have HC2 := Lib.hid c2; have HCZ := Lib.hid cz; have HD2 := Lib.hid d2
              clear cz d2
              go_wp2_with fail
              refine (rmod_is _ x _ HR2.out (by omega) (by omega)).mono ?_
              rintro e' w' ⟨rfl, rfl⟩
              go_wp2
              have hW1 : RN w (wr.setCell ⟨B, j', none⟩ (.int .i64 (nv x))) Z (fun i => if i = j' then nv x else partl L f n s t i) B P :=
                ⟨row_set HV2.out.row j' (nv x), HV2.out.pows.setOther (by have := HBP.out; show P ≠ B; omega) _, (Below.heap_setCell _ _ _ _ (by have := HFAR.out; show w.heap.size + 1 ≠ B; omega)).trans HV2.out.res, HV2.out.below.setCell (by have := HFAR.out; show w.heap.size ≤ B; omega) _⟩
              have c3 : (wr.setCell ⟨B, j', none⟩ (.int .i64 (nv x))).cell? ⟨B, j' + n, none⟩ = some (.int .i64 v) := by
                rw [World.cell?_setCell_other _ _ _ _ (by intro h; injection h; omega)]; exact HC2.out
              have cz : (wr.setCell ⟨B, j', none⟩ (.int .i64 (nv x))).cell? ⟨P, kb, none⟩ = some (.int .i64 zi) := by
                rw [World.cell?_setCell_other _ _ _ _ (by intro h; injection h; have := HBP.out; omega)]; exact HCZ.out
              have d2 : (wr.setCell ⟨B, j', none⟩ (.int .i64 (nv x))).frozen? ⟨B, j' + n, none⟩ = false := (row_set HV2.out.row j' (nv x)).frozen _
              obtain ⟨wN, hwN⟩ : ∃ wN, wr.setCell ⟨B, j', none⟩ (.int .i64 (nv x)) = wN := ⟨_, rfl⟩
              rw [hwN] at c3 cz d2
              rw [hwN]
              have HWN := Lib.hid hwN
              clear hwN hW1 c1 c2 d1
              refine wp_region_still_tail 17 (by kernel_rfl) (by kernel_rfl) ?_
              simp only [List.take_succ_cons, List.take_zero, List.drop_succ_cons, List.drop_zero]
              repeat still_step
              still_call (rmod_same _ y _ HN2.out.1 HN2.out.2.1 HN2.out.2.2)
              repeat still_step
              refine wpStill_nil ?_
              change wpList _ _ _ _ _ wN.drew
              go_wp2
              go_roundw
              case rel => exact ⟨t + 1, j' + 1, by omega, Lib.hid (by have := HJ.out; omega), by go_num, Lib.hid (by have := HV2.out.step hltt HFAR.out HBP.out (x := x) (y := y) (by rw [← HJ.out, HX.out, HCX.out.1]) (by rw [← HJ.out, HY.out, HCX.out.2]); rw [← HJ.out, HWN.out] at this; exact this.drew)⟩
              case measure => simp [intOf]; omega
            · obtain rfl : t = n := by omega
              have hj := HJ.out
              have hdj : decide ((j' : Int) < (s : Int) + (t : Int)) = false := decide_eq_false (by omega)
              have HJ' := Lib.hid hj
              clear hj
              go_wp2
              go_roundw
              case rel => exact ⟨b + 1, s + 2 * t, by omega, Lib.hid (by rw [Nat.add_mul, Nat.one_mul, ← HS.out]), by omega, by go_num, by rw [show kk - (b + 1) = kb by have := HKB.out; omega], Lib.hid (by have := HV2.out; rw [partl_next] at this; exact this)⟩
              case measure => simp [intOf]; omega
        · obtain rfl : b = m := by omega
          have e256 : s = 256 := by rw [HS.out]; exact mul_end HE.out
          subst e256
          have HV3 : Hid (RN w wr Z (up (invTo (l + 1) A)) B P) := Lib.hid ⟨by rw [HLE.out]; exact partl_all HV.out.row, HV.out.pows, HV.out.res, HV.out.below⟩
          clear HV
          go_wp2
          go_roundw
          case rel => exact ⟨l + 1, n * 2, by omega, Lib.hid (by rw [HK.out.2.2.2.1, HNF.out]), by omega, by omega, by go_num, by rw [HK.out.2.2.2.2.2, HMe.out]; congr 2; have := HKM.out; omega, HV3⟩
          case measure => simp [intOf]; omega
    · obtain rfl : l = 8 := by omega
      have hn7 : n = 256 := by rw [HNF.out]
      subst hn7
      obtain ⟨f, hf⟩ : ∃ f, invTo 8 A = f := ⟨_, rfl⟩
      rw [hf] at HV
      have HV0 : Hid (RN w wr Z (partg (sc 8347681 f) (up f) 0) B P) := Lib.hid ⟨row_is HV.out.row (fun i _ => by unfold partg; rw [if_neg (by omega)]), HV.out.pows, HV.out.res, HV.out.below⟩
      have HFE : Hid (sc 8347681 f = inv (redp p)) := Lib.hid (by rw [HAE.out, ← hf]; rfl)
      clear HV hf
      go_wp2
      go_loopw [10] (fun i W => ∃ k : Nat, k ≤ 256 ∧ i = .int .i64 k ∧ Hid (RN w W Z (partg (sc 8347681 f) (up f) k) B P)) (fun i _ => 256 - (intOf i).toNat)
      case atStart => exact ⟨0, by omega, rfl, HV0⟩
      case round =>
        clear HV0
        obtain ⟨k, hk, rfl, HV⟩ := hrel
        by_cases hlk : k < 256
        · have c1 := HV.out.row.cell (i := k) hlk
          have d1 := HV.out.row.frozen k
          unfold ints at c1
          rw [partg_at, up_at] at c1
          have a1 := nv_lo (f k); have a2 := nv_hi (f k)
          have q1 := unscale_t (f k)
          have HXX : Hid (sc 8347681 f k = 8347681 * f k) := Lib.hid rfl
          obtain ⟨x, hx⟩ : ∃ x, f k = x := ⟨_, rfl⟩
          rw [hx] at c1 a1 a2 q1 HXX
          clear hx
          have b1 := nv_lo (8347681 * x); have b2 := nv_hi (8347681 * x)
          obtain ⟨y, hy⟩ : ∃ y : F, 8347681 * x = y := ⟨_, rfl⟩
          rw [hy] at q1 HXX b1 b2
          clear hy
          obtain ⟨u, hu⟩ : ∃ u, nv x = u := ⟨_, rfl⟩
          rw [hu] at c1 a1 a2 q1
          clear hu
          obtain ⟨v, hv⟩ : ∃ v, nv y = v := ⟨_, rfl⟩
          rw [hv] at q1 b1 b2
          have HVE := Lib.hid hv
          clear hv
          have q2 : IntKind.i64.wrap (u * 8347681) = u * 8347681 := IntWalk.i64_in _ (by omega)
          have q3 : IntKind.i64.wrap v = v := IntWalk.i64_in _ (by omega)
          go_wp2
          go_roundw
          case rel => exact ⟨k + 1, by omega, by go_num, Lib.hid (by rw [← HVE.out]; exact ⟨partg_succ HXX.out HV.out.row, HV.out.pows.setOther (by have := HBP.out; show P ≠ B; omega) _, (Below.heap_setCell _ _ _ _ (by have := HFAR.out; show w.heap.size + 1 ≠ B; omega)).trans HV.out.res, HV.out.below.setCell (by have := HFAR.out; show w.heap.size ≤ B; omega) _⟩)⟩
          case measure => simp [intOf]; omega
        · obtain rfl : k = 256 := by omega
          obtain ⟨ds, hds, hD⟩ := of_row HV.out.row
          have H1 := Lib.hid hds; have H2 := Lib.hid (show IsP ds (up (inv (redp p))) by rw [← HFE.out]; exact partg_all hD); have H3 := Lib.hid (poly_sized hD); have H4 := Lib.hid (show Z.size = ds.size by rw [HZ.out.1, hD.1]); clear hds hD
          go_wp2_with (first | (refine wpList_load_row rfl 23 (.tmp 3) rfl B rfl 23 ds (0, 0) _ H1.out Try.underlying23 rfl H3.out ?_) | (refine wpList_store_row rfl 23 (.tmp 2) (.tmp 75) rfl (w.heap.size + 1) ds rfl rfl 23 Z HV.out.res H3.out H4.out H2.out.cells ?_))
          refine bodyPost_ret (v := .agg ds) (results_cell_row (p := 2) (ty := 23) (by kernel_rfl) _ _ (w.heap.size + 1) 23 ds (0, 0) _ rfl (setRow_heap _ _ _ _ _ _ HV.out.res) Try.underlying23 rfl H3.out) rfl ⟨ds, rfl, H2.out, below_setRow HV.out.below (by omega) _⟩
end Go.Proofs.Ytaihlmedeebimaa.Lg
