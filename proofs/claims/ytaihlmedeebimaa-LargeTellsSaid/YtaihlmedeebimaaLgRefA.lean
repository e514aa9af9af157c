/- Walks of the document's own: mod, roots. -/
import Derived.Test.YtaihlmedeebimaaLgHead
import Derived.Laws.Bits128
namespace Go.Proofs.Ytaihlmedeebimaa.Lg
open Go.RowKit
set_option linter.all false

theorem rmod_red (n : Int) : nv (red n) = if n.tmod 8380417 < 0 then n.tmod 8380417 + 8380417 else n.tmod 8380417 := by
  rw [nv_red]
  rcases Int.le_total 0 n with h | h
  · rw [Int.tmod_eq_emod_of_nonneg h, if_neg (by omega)]
  · have e : n.tmod 8380417 = - ((-n) % 8380417) := by
      rw [show n.tmod 8380417 = -((-n).tmod 8380417) by rw [Int.neg_tmod]; omega, Int.tmod_eq_emod_of_nonneg (by omega)]
    rw [e]
    split <;> omega
set_option maxHeartbeats 400000 in
theorem rmod_is (n : Int) (x : F) (w : World) (h : red n = x) (h1 : -9223372036854775808 ≤ n) (h2 : n ≤ 9223372036854775807) :
    Calls Try.prog 30 #[.int .i64 n] w fun e w' => e = .returned (.int .i64 (nv x)) ∧ w = w' := by
  have ht := rmod_red n
  rw [h] at ht
  obtain ⟨a, b⟩ := tmod_bd n
  clear h
  by_cases hc : n.tmod 8380417 < 0
  · rw [if_pos hc] at ht
    have HT := Lib.hid ht; clear ht
    go_enter Try.func30, Try.ntmps30
    go_wp2
    go_ret
    exact ⟨by rw [HT.out]; rfl, rfl⟩
  · rw [if_neg hc] at ht
    have HT := Lib.hid ht; clear ht
    go_enter Try.func30, Try.ntmps30
    go_wp2
    go_ret
    exact ⟨by rw [HT.out]; rfl, rfl⟩
theorem rmod_same (n : Int) (x : F) (w : World) (h : red n = x) (h1 : -9223372036854775808 ≤ n) (h2 : n ≤ 9223372036854775807) :
    Calls Try.prog 30 #[.int .i64 n] w fun e w' => e = .returned (.int .i64 (nv x)) ∧ w' = w :=
  (rmod_is n x w h h1 h2).mono fun _ _ ⟨h, h'⟩ => ⟨h, h'.symm⟩

/-! ### roots -/
theorem pw_step (k : Nat) : nv (pw k) * 1753 % 8380417 = nv (pw (k + 1)) := by
  rw [← nv_red, red_mul, red_nv]; rfl
theorem pw_step_t (k : Nat) : (nv (pw k) * 1753).tmod 8380417 = nv (pw (k + 1)) := by
  rw [Int.tmod_eq_emod_of_nonneg (by have := nv_lo (pw k); omega), pw_step]
def tnTo (i : Nat) : Nat → Nat
  | 0 => 0
  | k + 1 => 2 * tnTo i k + i / 2 ^ k % 2
theorem tnTo_lt (i : Nat) : ∀ k, tnTo i k < 2 ^ k
  | 0 => by show 0 < 1; omega
  | k + 1 => by have := tnTo_lt i k; show 2 * tnTo i k + i / 2 ^ k % 2 < 2 ^ (k + 1); rw [Nat.pow_succ]; omega
theorem tnTo_eight : ∀ i, i < 256 → tnTo i 8 = tn i := by decide +kernel
theorem and_one (x : Nat) (hx : x < 256) : bits .and .i64 (x : Int) 1 = ((x % 2 : Nat) : Int) := by
  have : ∀ x, x < 256 → bits .and .i64 ((x : Nat) : Int) 1 = ((x % 2 : Nat) : Int) := by decide +kernel
  exact this x hx
def pwi : Nat → Int := fun j => nv (pw j)
def partp (k : Nat) : Nat → Int := fun j => if j < k then nv (pw j) else 0
def partzz (k : Nat) : Nat → Int := fun j => if j < k then nv (zv j) else 0
theorem partp_succ {w : World} {b k : Nat} {t : TypeId} {v : Int} (hv : nv (pw k) = v) (h : w.rowIs b t 256 (ints (partp k))) : (w.setCell ⟨b, k, none⟩ (.int .i64 v)).rowIs b t 256 (ints (partp (k + 1))) :=
  row_is (row_set h k _) fun i _ => by
    unfold partp
    by_cases e : i = k
    · subst e; rw [if_pos rfl, if_pos (by omega), hv]
    · rw [if_neg e]
      by_cases h : i < k
      · rw [if_pos h, if_pos (by omega)]
      · rw [if_neg h, if_neg (by omega)]
theorem partzz_succ {w : World} {b k : Nat} {t : TypeId} {v : Int} (hv : nv (zv k) = v) (h : w.rowIs b t 256 (ints (partzz k))) : (w.setCell ⟨b, k, none⟩ (.int .i64 v)).rowIs b t 256 (ints (partzz (k + 1))) :=
  row_is (row_set h k _) fun i _ => by
    unfold partzz
    by_cases e : i = k
    · subst e; rw [if_pos rfl, if_pos (by omega), hv]
    · rw [if_neg e]
      by_cases h : i < k
      · rw [if_pos h, if_pos (by omega)]
      · rw [if_neg h, if_neg (by omega)]
theorem partp_at {k j : Nat} (h : j < k) : partp k j = nv (pw j) := by unfold partp; rw [if_pos h]
structure RO (w W : World) (Y : Array Value) (B i : Nat) : Prop where
  pows : W.rowIs (w.heap.size + 1) 22 256 (ints pwi)
  out : W.rowIs B 22 256 (ints (partzz i))
  res : W.heap[w.heap.size]? = some (.cells Y 22 (0, 0))
  below : Below w.heap.size w W

set_option maxHeartbeats 1600000 in
set_option maxRecDepth 100000 in
theorem rroots_any (w : World) :
    Calls Try.prog 42 #[] w fun e w' => ∃ cs, e = .returned (.agg cs) ∧ IsZ cs ∧ Below w.heap.size w w' := by
  obtain ⟨Y, hy, hY1, hY2⟩ := zero_pow
  have HY1 := Lib.hid hY1; have HY2 := Lib.hid hY2; clear hY1 hY2
  have y0 : Y[0]? = some (.int .i64 0) := HY2.out 0 (by omega)
  have HY := Lib.hid hy
  have e1 : (w.alloc (.cells Y 22)).heap.size = w.heap.size + 1 := by simp
  have rp : ((w.alloc (.cells Y 22)).alloc (.cells (Y.setIfInBounds 0 (.int .i64 1)) 22)).rowIs (w.heap.size + 1) 22 256 (ints (partp 1)) :=
    ⟨_, by rw [← e1]; exact heap_alloc_last _ _, by simp [HY1.out], fun i hi => by
      rw [Array.getElem?_setIfInBounds]
      by_cases e : 0 = i
      · subst e
        rw [if_pos rfl, if_pos (by rw [HY1.out]; omega)]
        unfold ints partp
        rw [if_pos (by omega)]
        have : nv (pw 0) = 1 := by decide
        rw [this]
      · rw [if_neg e, HY2.out i hi]; unfold ints partp; rw [if_neg (by omega)]⟩
  have HP := Lib.hid rp
  have HQ := Lib.hid ((Below.heap_alloc (w.alloc (.cells Y 22)) (.cells (Y.setIfInBounds 0 (.int .i64 1)) 22) w.heap.size (by omega)).trans (heap_alloc_last w (.cells Y 22)))
  have HB := Lib.hid (((Below.refl w.heap.size w).alloc (Nat.le_refl _) (.cells Y 22)).alloc (by simp) (.cells (Y.setIfInBounds 0 (.int .i64 1)) 22))
  clear rp e1
  go_enter Try.func42, Try.ntmps42
  go_wp2
  change Code.wp _ _ _ _ ((w.alloc (.cells Y 22)).alloc (.cells (Y.setIfInBounds 0 (.int .i64 1)) 22))
  generalize (w.alloc (.cells Y 22)).alloc (.cells (Y.setIfInBounds 0 (.int .i64 1)) 22) = wS at *
  clear y0
  go_loopw [2] (fun i W => ∃ k : Nat, 1 ≤ k ∧ k ≤ 256 ∧ i = .int .i64 k ∧ Hid (W.rowIs (w.heap.size + 1) 22 256 (ints (partp k))) ∧ Hid (W.heap[w.heap.size]? = some (.cells Y 22 (0, 0))) ∧ Hid (Below w.heap.size w W)) (fun i _ => 256 - (intOf i).toNat)
  case atStart => exact ⟨1, by omega, by omega, rfl, HP, HQ, HB⟩
  case round =>
    clear HP HQ HB
    obtain ⟨k, hk1, hk, rfl, HP, HQ, HB⟩ := hrel
    by_cases hlt : k < 256
    · obtain ⟨j, rfl⟩ : ∃ j, k = j + 1 := ⟨k - 1, by omega⟩
      have c1 := HP.out.cell (i := j) (by omega)
      unfold ints at c1
      rw [partp_at (by omega)] at c1
      have fr := HP.out.frozen (j + 1)
      have cc := HP.out.cell (i := j + 1) hlt
      have q1 := pw_step_t j
      have q0 := pw_step j
      have n1 := nv_lo (pw j); have n2 := nv_hi (pw j)
      obtain ⟨x, hx⟩ : ∃ x, nv (pw j) = x := ⟨_, rfl⟩
      obtain ⟨z, hz⟩ : ∃ z, nv (pw (j + 1)) = z := ⟨_, rfl⟩
      rw [hx] at c1 q0 q1 n1 n2
      rw [hz] at q0 q1
      have HZ := Lib.hid hz
      clear hx hz
      have q2 : IntKind.i64.wrap (x * 1753) = x * 1753 := IntWalk.i64_in _ (by omega)
      have z1 : 0 ≤ z := by omega
      have z2 : z < 8380417 := by omega
      have q3 : IntKind.i64.wrap z = z := IntWalk.i64_in _ (by omega)
      have Q0 := Lib.hid q0
      clear q0
      have i2 : ((j + 1 : Nat) : Int) - 1 = (j : Int) := by omega
      have i3 : IntKind.i64.wrap (j : Int) = (j : Int) := IntWalk.i64_in _ (by omega)
      have i4 : (j : Int) < 256 := by omega
      have i5 : (0 : Int) ≤ ((j + 1 : Nat) : Int) := by omega
      have i6 : ((j + 1 : Nat) : Int) < 256 := by omega
      have hd : decide (((j + 1 : Nat) : Int) < 256) = true := decide_eq_true (by omega)
      go_wp2
      go_roundw
      case rel => exact ⟨j + 1 + 1, by omega, by omega, by go_num, Lib.hid (partp_succ HZ.out HP.out), Lib.hid ((Below.heap_setCell wr _ _ _ (by show w.heap.size ≠ w.heap.size + 1; omega)).trans HQ.out), Lib.hid (HB.out.setCell (by show w.heap.size ≤ w.heap.size + 1; omega) _)⟩
      case measure => simp [intOf]; omega
    · obtain rfl : k = 256 := by omega
      have hz := HY.out
      have HPW : Hid (wr.rowIs (w.heap.size + 1) 22 256 (ints pwi)) := Lib.hid (row_is HP.out fun i hi => by unfold partp pwi; rw [if_pos hi])
      have hlt1 := HP.out.lt
      obtain ⟨B, hB⟩ : ∃ B, wr.heap.size = B := ⟨_, rfl⟩
      have HFAR := Lib.hid (show w.heap.size + 2 ≤ B by omega)
      have ro : RO w (wr.alloc (.cells Y 22)) Y B 0 := ⟨HPW.out.alloc _, hB ▸ ⟨Y, heap_alloc_last _ _, HY1.out, fun i hi => by rw [HY2.out i hi]; unfold ints partzz; rw [if_neg (by omega)]⟩, (Below.heap_alloc wr _ _ (by omega)).trans HQ.out, HB.out.alloc (by omega) _⟩
      have HRO := Lib.hid ro
      clear ro HP HQ HB HPW
      go_wp2
      clear hB hlt1 hz
      go_loopw [4] (fun i W => ∃ k : Nat, k ≤ 256 ∧ i = .int .i64 k ∧ Hid (RO w W Y B k)) (fun i _ => 256 - (intOf i).toNat)
      case atStart => exact ⟨0, by omega, rfl, HRO⟩
      case round =>
        clear HRO
        obtain ⟨i, hi, rfl, HRO⟩ := hrel
        by_cases hlt : i < 256
        · have HT := Lib.hid (tnTo_eight i hlt)
          have hdi : decide ((i : Int) < 256) = true := decide_eq_true (by omega)
          go_wp2
          go_loopw [5, 6] (fun o k W => ∃ j : Nat, j ≤ 8 ∧ k = .int .i64 j ∧ o = .int .i64 (tnTo i j : Nat) ∧ Hid (RO w W Y B i)) (fun _ k _ => 8 - (intOf k).toNat)
          case atStart => exact ⟨0, by omega, rfl, rfl, HRO⟩
          case round =>
            clear HRO
            obtain ⟨j, hj, rfl, rfl, HRO⟩ := hrel
            have b1 : tnTo i j < 256 := Nat.lt_of_lt_of_le (tnTo_lt i j) (Nat.pow_le_pow_right (by omega) hj)
            by_cases hlj : j < 8
            · have hdv : i / 2 ^ j < 256 := Nat.lt_of_le_of_lt (Nat.div_le_self _ _) hlt
              have hs : tnTo i (j + 1) = 2 * tnTo i j + i / 2 ^ j % 2 := rfl
              have hc : ((i : Int) / 2 ^ j) = ((i / 2 ^ j : Nat) : Int) := by simp
              obtain ⟨x, hx⟩ : ∃ x, i / 2 ^ j = x := ⟨_, rfl⟩
              rw [hx] at hdv hs hc
              have HX := Lib.hid (fun _ : Unit => hx)
              have HS := Lib.hid hs
              clear hx hs
              have ha : bits .and .i64 (x : Int) 1 = (x : Int) % 2 := by rw [and_one x hdv]; omega
              obtain ⟨y, hy'⟩ : ∃ y, tnTo i j = y := ⟨_, rfl⟩
              rw [hy'] at b1 HS
              rw [hy']
              clear hy'
              go_wp2
              go_roundw
              case rel => exact ⟨j + 1, by omega, by go_num, by rw [HS.out]; go_num, HRO⟩
              case measure => simp [intOf]; omega
            · obtain rfl : j = 8 := by omega
              rw [HT.out]
              have ht := tn_lt i
              have c1 := HRO.out.pows.cell (i := tn i) ht
              unfold ints pwi at c1
              rw [show nv (pw (tn i)) = nv (zv i) from rfl] at c1
              have fr := HRO.out.out.frozen i
              have cc := HRO.out.out.cell (i := i) hlt
              obtain ⟨z, hz⟩ : ∃ z, nv (zv i) = z := ⟨_, rfl⟩
              rw [hz] at c1
              have HZ := Lib.hid hz
              obtain ⟨t, ht'⟩ : ∃ t, tn i = t := ⟨_, rfl⟩
              rw [ht'] at c1 ht
              rw [ht']
              clear hz ht' b1
              go_wp2
              go_roundw
              case rel => exact ⟨i + 1, by omega, by go_num, Lib.hid ⟨HRO.out.pows.setOther (by have := HFAR.out; show w.heap.size + 1 ≠ B; omega) _, partzz_succ HZ.out HRO.out.out, (Below.heap_setCell wr _ _ _ (by have := HFAR.out; show w.heap.size ≠ B; omega)).trans HRO.out.res, HRO.out.below.setCell (by have := HFAR.out; show w.heap.size ≤ B; omega) _⟩⟩
              case measure => simp [intOf]; omega
        · obtain rfl : i = 256 := by omega
          obtain ⟨cs, hcs, hs, hc⟩ := HRO.out.out
          have hP' : IsZ cs := ⟨hs, fun i hi => by rw [hc i hi]; unfold ints partzz; rw [if_pos hi]⟩
          have hi := pow_sized hP'
          have hzm : Y.size = cs.size := by rw [HY1.out, hP'.1]
          have H1 := Lib.hid hcs; have H2 := Lib.hid hP'; have H3 := Lib.hid hi; have H4 := Lib.hid hzm; clear hcs hP' hi hzm hs hc
          go_wp2_with (first | (refine wpList_load_row rfl 22 (.tmp 3) rfl B rfl 22 cs (0, 0) _ H1.out Try.underlying22 rfl H3.out ?_) | (refine wpList_store_row rfl 22 (.tmp 0) (.tmp 40) rfl w.heap.size cs rfl rfl 22 Y HRO.out.res H3.out H4.out H2.out.cells ?_))
          refine bodyPost_ret (v := .agg cs) (results_cell_row (p := 0) (ty := 22) (by kernel_rfl) _ _ w.heap.size 22 cs (0, 0) _ rfl (setRow_heap _ _ _ _ _ _ HRO.out.res) Try.underlying22 rfl H3.out) rfl ⟨cs, rfl, H2.out, below_setRow HRO.out.below (Nat.le_refl _) _⟩
end Go.Proofs.Ytaihlmedeebimaa.Lg
