/- Walks: LargeSize. Written by tools/mk_lgsize.py. -/
import Derived.Test.YtaihlmedeebimaaLgSums
namespace Go.Proofs.Ytaihlmedeebimaa.Lg
open Go.RowKit
set_option linter.all false

theorem sizTo_at (f : Nat → F) : ∀ k, 0 < k → ∃ i, i < k ∧ sizTo f k = mag (f i)
  | k + 1, _ => by
    have e : sizTo f (k + 1) = if mag (f k) > sizTo f k then mag (f k) else sizTo f k := rfl
    rw [e]
    by_cases h : mag (f k) > sizTo f k
    · exact ⟨k, by omega, by rw [if_pos h]⟩
    · rw [if_neg h]
      by_cases h0 : k = 0
      · subst h0
        refine ⟨0, by omega, ?_⟩
        have a : sizTo f 0 = 0 := rfl
        have := mag_bd (f 0)
        omega
      · obtain ⟨i, hi, he⟩ := sizTo_at f k (by omega)
        exact ⟨i, by omega, he⟩
def foundTo (f : Nat → F) (n : Int) : Nat → Bool
  | 0 => false
  | k + 1 => foundTo f n k || (decide (cen (f k) = n) || decide (-cen (f k) = n))
theorem foundTo_of (f : Nat → F) (n : Int) : ∀ k i, i < k → (cen (f i) = n ∨ -cen (f i) = n) → foundTo f n k = true
  | k + 1, i, h, hc => by
    show (foundTo f n k || (decide (cen (f k) = n) || decide (-cen (f k) = n))) = true
    by_cases e : i = k
    · subst e
      rcases hc with hc | hc
      · rw [decide_eq_true hc]; simp
      · rw [decide_eq_true hc]; simp
    · rw [foundTo_of f n k i (by omega) hc]; rfl
theorem found_siz (f : Nat → F) : foundTo f (siz f) 256 = true := by
  obtain ⟨i, hi, he⟩ := sizTo_at f 256 (by omega)
  refine foundTo_of f _ 256 i hi ?_
  unfold siz
  rw [he]
  unfold mag
  split
  · exact .inr rfl
  · exact .inl rfl
theorem cen_le_siz (f : Nat → F) (i : Nat) (h : i < 256) : cen (f i) ≤ siz f ∧ -cen (f i) ≤ siz f := by
  have h1 := sizTo_ge f 256 i h
  unfold siz
  unfold mag at h1
  split at h1 <;> omega
theorem mag_neg (x : F) : mag (0 - x) = mag x := by
  have h : (0 : F) - x = red (0 - nv x) := by rw [red_sub, red_nv]; have : red 0 = 0 := by decide
                                              rw [this]
  have hn : nv (0 - x) = (0 - nv x) % 8380417 := by rw [h, nv_red]
  have hc : cen (0 - x) = if nv (0 - x) ≤ 4190208 then nv (0 - x) else nv (0 - x) - 8380417 := rfl
  have hd : cen x = if nv x ≤ 4190208 then nv x else nv x - 8380417 := rfl
  have a := nv_lo x; have b := nv_hi x
  unfold mag
  rw [hc, hn, hd]
  generalize nv x = v at *
  split <;> split <;> split <;> split <;> omega
theorem siz_neg (f : Nat → F) : siz (mi (fun _ => 0) f) = siz f := by
  have h : ∀ k, sizTo (mi (fun _ => 0) f) k = sizTo f k := by
    intro k
    induction k with
    | zero => rfl
    | succ k ih =>
      have e1 : sizTo (mi (fun _ => 0) f) (k + 1) = if mag (mi (fun _ => 0) f k) > sizTo (mi (fun _ => 0) f) k then mag (mi (fun _ => 0) f k) else sizTo (mi (fun _ => 0) f) k := rfl
      have e2 : sizTo f (k + 1) = if mag (f k) > sizTo f k then mag (f k) else sizTo f k := rfl
      have e3 : mag (mi (fun _ => 0) f k) = mag (f k) := mag_neg (f k)
      rw [e1, e2, ih, e3]
  exact h 256

set_option maxHeartbeats 8000000 in
set_option maxRecDepth 100000 in
theorem size_walk (c0 : Array Value) (x0 : Nat → Int) (w : World) (hP0 : IsP c0 x0) (hF0 : Fits x0) :
    Calls Try.prog 7 #[.agg c0] w fun e w' => e = .returned (.bool true) ∧ Below w.heap.size w w' := by
  have HP0 := Lib.hid hP0; have HF0 := Lib.hid hF0; clear hP0 hF0
  obtain ⟨Z, hz, hZ⟩ := zero_poly
  have HZ := Lib.hid hZ
  clear hZ
  have g0 := heap_alloc_last w (.cells c0 23)
  have HA0 := Lib.hid g0; clear g0
  have HB0 := Lib.hid ((Below.refl w.heap.size w).alloc (Nat.le_refl _) (.cells c0 23))
  go_enter Try.func7, Try.ntmps7
  go_wp2_with fail
  refine (head_any _).mono ?_
  rintro e' w1 ⟨rfl, hB⟩
  have hs1 : w.heap.size + 1 ≤ w1.heap.size := by have := hB.size; simpa using this
  have HA0 := Lib.hid ((hB.block (w.heap.size) (by simp <;> omega)).trans HA0.out)
  have HB1 := Lib.hid (HB0.out.trans (hB.mono HB0.out.size))
  clear hB HB0
  obtain ⟨b0, hb0⟩ : ∃ b, w.heap.size = b := ⟨_, rfl⟩
  rw [hb0] at HA0
  have hl0 : b0 < w1.heap.size := by omega
  rw [hb0]
  clear hb0 hs1
  go_wp2_with (refine wpList_load_row rfl 23 (.tmp 1) rfl b0 rfl 23 c0 (0, 0) _ HA0.out Try.underlying23 rfl (poly_sized HP0.out) ?_)
  refine (cen_any c0 x0 _ HP0.out HF0.out).mono ?_
  rintro e' w2 ⟨ss, rfl, hS, hB⟩
  have HSS := Lib.hid hS
  have HA0 := Lib.hid ((hB.block b0 hl0).trans HA0.out)
  have HB2 := Lib.hid (HB1.out.trans (hB.mono HB1.out.size))
  have hs2 := hB.size
  have HM := Lib.hid (heap_alloc_last w2 (.cells ss 23))
  have HA1 := Lib.hid ((Below.heap_alloc w2 (.cells ss 23) b0 (by omega)).trans HA0.out)
  have HB3 := Lib.hid (HB2.out.alloc HB2.out.size (.cells ss 23))
  have hl1 : w2.heap.size < (w2.alloc (.cells ss 23)).heap.size := by simp
  clear hB hS HB1
  go_wp2_with (first | (refine wpList_store_row rfl 23 (.tmp 4) (.tmp 10) rfl w2.heap.size ss rfl rfl 23 Z (heap_alloc_last w2 _) (poly_sized HSS.out) (by rw [HZ.out.1, HSS.out.1]) HSS.out.cells ?_; rw [World.setRow_alloc_new]) | (refine wpList_load_row rfl 23 (.tmp 1) rfl b0 rfl 23 c0 (0, 0) _ HA1.out Try.underlying23 rfl (poly_sized HP0.out) ?_))
  refine (size_any c0 x0 _ HP0.out HF0.out).mono ?_
  rintro e' w3 ⟨rfl, hB⟩
  have HR := Lib.hid (row_of ((hB.block w2.heap.size hl1).trans HM.out) HSS.out)
  have HA := Lib.hid ((hB.block b0 (by omega)).trans HA1.out)
  have HB4 := Lib.hid (HB3.out.trans (hB.mono HB3.out.size))
  obtain ⟨b1, hb1⟩ : ∃ b, w2.heap.size = b := ⟨_, rfl⟩
  rw [hb1] at HR
  rw [hb1]
  have sb := sizTo_bd (redp x0) 256
  change 0 ≤ siz _ ∧ siz _ ≤ _ at sb
  have HLE := Lib.hid (cen_le_siz (redp x0)); have HFO := Lib.hid (found_siz (redp x0))
  obtain ⟨n, hn⟩ : ∃ n, siz (redp x0) = n := ⟨_, rfl⟩
  rw [hn] at sb HLE HFO
  rw [hn]
  have HN := Lib.hid hn
  obtain ⟨sb1, sb2⟩ := sb
  clear hB HB3 HM HA0 HA1 HB2 hs2 hl0 hl1 hb1 hn hz
  go_wp2
  go_loopw [6, 7] (fun fb i W => ∃ j : Nat, j ≤ 256 ∧ i = .int .i64 (j : Int) ∧ fb = .bool (foundTo (redp x0) n j) ∧ Hid (W.rowIs b1 23 256 (ints (fun i => cen (redp x0 i)))) ∧ Hid (W.heap[b0]? = some (.cells c0 23 (0, 0))) ∧ Hid (Below w.heap.size w W)) (fun _ i _ => 256 - (intOf i).toNat)
  case atStart => exact ⟨0, by omega, rfl, rfl, HR, HA, HB4⟩
  case round =>
    clear HR HA HB4
    obtain ⟨j, hj, rfl, rfl, HR, HA, HB4⟩ := hrel
    by_cases hlt : j < 256
    · have hc := HR.out.cell (i := j) hlt
      unfold ints at hc
      dsimp only at hc
      have hle := HLE.out j hlt
      have hcb := cen_bd (redp x0 j)
      have HS : Hid (foundTo (redp x0) n (j + 1) = (foundTo (redp x0) n j || (decide (cen (redp x0 j) = n) || decide (-cen (redp x0 j) = n)))) := Lib.hid rfl
      obtain ⟨c, hcc⟩ : ∃ c, cen (redp x0 j) = c := ⟨_, rfl⟩
      rw [hcc] at hc hle hcb HS
      obtain ⟨fb, hfb⟩ : ∃ fb, foundTo (redp x0) n j = fb := ⟨_, rfl⟩
      rw [hfb] at HS
      rw [hfb]
      clear hcc hfb
      obtain ⟨l1, l2⟩ := hle; obtain ⟨l3, l4⟩ := hcb
      have q1 : IntKind.i64.wrap (-c) = -c := IntWalk.i64_in _ (by omega)
      have t1 : decide (c > n) = false := decide_eq_false (by omega)
      have t2 : decide (-c > n) = false := decide_eq_false (by omega)
      have t3 : decide (c > 4190208) = false := decide_eq_false (by omega)
      have t4 : decide (-c > 4190208) = false := decide_eq_false (by omega)
      have hd : decide ((j : Int) < 256) = true := decide_eq_true (by omega)
      have i0 : (0 : Int) ≤ (j : Int) := by omega
      have i1 : (j : Int) < 256 := by omega
      cases fb with
      | true =>
        go_wp2
        go_roundw
        case rel => exact ⟨j + 1, by omega, by go_num, by rw [HS.out]; rfl, HR, HA, HB4⟩
        case measure => simp [intOf]; omega
      | false =>
        by_cases e1 : c = n
        · have s1 : decide (c = n) = true := decide_eq_true e1
          rw [s1] at HS
          have HE := Lib.hid e1
          go_wp2
          go_roundw
          case rel => exact ⟨j + 1, by omega, by go_num, by rw [HS.out]; rfl, HR, HA, HB4⟩
          case measure => simp [intOf]; omega
        · have s1 : decide (c = n) = false := decide_eq_false e1
          rw [s1] at HS
          by_cases e2 : -c = n
          · have s2 : decide (-c = n) = true := decide_eq_true e2
            rw [s2] at HS
            go_wp2
            go_roundw
            case rel => exact ⟨j + 1, by omega, by go_num, by rw [HS.out]; rfl, HR, HA, HB4⟩
            case measure => simp [intOf]; omega
          · have s2 : decide (-c = n) = false := decide_eq_false e2
            rw [s2] at HS
            go_wp2
            go_roundw
            case rel => exact ⟨j + 1, by omega, by go_num, by rw [HS.out, beq_false_of_ne e1, beq_false_of_ne e2]; rfl, HR, HA, HB4⟩
            case measure => simp [intOf]; omega
    · obtain rfl : j = 256 := by omega
      rw [HFO.out]
      obtain ⟨B, hz, hbz⟩ := zero_poly
      have HBZ := Lib.hid hbz; clear hbz
      have HN2 := Lib.hid ((siz_neg (redp x0)).trans HN.out)
      go_wp2_with fail
      refine wp_load_row 23 (.tmp 1) rfl b0 rfl 23 c0 (0, 0) _ HA.out Try.underlying23 rfl (poly_sized HP0.out) ?_
      rename_i K hK
      refine hK _ _ ?_
      clear hK K
      go_wp2_with fail
      refine (sub_any B c0 _ x0 _ HBZ.out HP0.out zero_fits HF0.out).mono ?_
      rintro e' w5 ⟨d, rfl, hd, hB⟩
      rw [redp_zero] at hd
      have HD := Lib.hid hd
      have HB5 := Lib.hid (HB4.out.trans (hB.mono HB4.out.size))
      clear hd hB
      go_wp2_with fail
      refine (size_any d _ _ HD.out (fits_up _)).mono ?_
      rintro e' w6 ⟨rfl, hB⟩
      rw [redp_up, HN2.out]
      have HB6 := Lib.hid (HB5.out.trans (hB.mono HB5.out.size))
      clear hB
      go_wp2
      go_ret
      exact ⟨rfl, HB6.out⟩
end Go.Proofs.Ytaihlmedeebimaa.Lg
