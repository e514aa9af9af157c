/- Walks: numbers: lowest, number, what may be, how many bytes, Squeeze, Stretch. -/
import Derived.Test.YtdkhiooiakdecaaDoorRChecked
import Derived.Test.YtdkhiooiakdecaaDoorRKpPlain
import Derived.Test.YtdkhiooiakdecaaDoorRIterN
import Derived.Test.YtdkhiooiakdecaaDoorRSmWalkA
import Derived.Laws.Shifts
namespace Go.Proofs.YtdkhiooiakdecaaDoorR.Kp
open Go.RowKit
set_option linter.all false

theorem i64_and_mask (n : Int) (d : Nat) (h : d ≤ 62) : bits .and .i64 n (((2 ^ d : Nat) : Int) - 1) = n % ((2 ^ d : Nat) : Int) := by
  have hp : 0 < 2 ^ d := Nat.two_pow_pos d
  have hl : 2 ^ d ≤ 2 ^ 62 := Nat.pow_le_pow_right (by omega) h
  have h1 : (BitVec.ofInt 64 (((2 ^ d : Nat) : Int) - 1)).toNat = 2 ^ d - 1 := by
    rw [BitVec.toNat_ofInt]
    generalize 2 ^ d = k at *
    omega
  have hd : 2 ^ d ∣ 2 ^ 64 := Nat.pow_dvd_pow 2 (by omega)
  have key : (BitVec.ofInt 64 n &&& BitVec.ofInt 64 (((2 ^ d : Nat) : Int) - 1)).toNat = (n % ((2 ^ 64 : Nat) : Int)).toNat % 2 ^ d := by
    rw [BitVec.toNat_and, BitVec.toNat_ofInt, h1, Nat.and_two_pow_sub_one_eq_mod]
  show IntKind.i64.wrap ((BitVec.ofInt 64 n &&& BitVec.ofInt 64 (((2 ^ d : Nat) : Int) - 1)).toNat : Nat) = _
  rw [key, IntKind.wrap_i64]
  have e1 : (((n % ((2 ^ 64 : Nat) : Int)).toNat % 2 ^ d : Nat) : Int) = n % ((2 ^ d : Nat) : Int) := by
    have h0 : 0 ≤ n % ((2 ^ 64 : Nat) : Int) := Int.emod_nonneg _ (by omega)
    rw [Int.natCast_emod, Int.toNat_of_nonneg h0, Int.emod_emod_of_dvd _ (Int.natCast_dvd_natCast.2 hd)]
  rw [e1]
  have h2 : 0 ≤ n % ((2 ^ d : Nat) : Int) := Int.emod_nonneg _ (by omega)
  have h3 : n % ((2 ^ d : Nat) : Int) < ((2 ^ d : Nat) : Int) := Int.emod_lt_of_pos _ (by omega)
  omega

theorem pow_int (d : Nat) : ((2 : Int) ^ d) = ((2 ^ d : Nat) : Int) := by rw [Int.natCast_pow]; rfl
theorem pow_le {d e : Nat} (h : d ≤ e) : 2 ^ d ≤ 2 ^ e := Nat.pow_le_pow_right (by omega) h
theorem mask_is (n : Int) (d : Nat) (h : d ≤ 62) : bits .and .i64 n (wrap64 (wrap64 ((2 : Int) ^ d) - 1)) = n % ((2 ^ d : Nat) : Int) := by
  have hp : 0 < 2 ^ d := Nat.two_pow_pos d
  have hl := pow_le h
  have e1 : wrap64 ((2 : Int) ^ d) = ((2 ^ d : Nat) : Int) := by
    rw [pow_int]; unfold wrap64; generalize 2 ^ d = k at *; omega
  have e2 : wrap64 (((2 ^ d : Nat) : Int) - 1) = ((2 ^ d : Nat) : Int) - 1 := by
    unfold wrap64; generalize 2 ^ d = k at *; omega
  rw [e1, e2, i64_and_mask n d h]
set_option maxHeartbeats 400000 in
theorem lowest_any (d : Nat) (n : Int) (w : World) (hd : d ≤ 12) :
    Calls Tryd.prog 31 #[.int .i64 d, .int .i64 n] w fun e w' => e = .returned (.int .i64 (n % ((2 ^ d : Nat) : Int))) ∧ w = w' := by
  go_enter Tryd.func31, Tryd.ntmps31
  go_wp2
  go_ret
  exact ⟨by show Ending.returned (.int .i64 (bits .and .i64 n (wrap64 (wrap64 ((2 : Int) ^ d) - 1)))) = _; rw [mask_is n d (by omega)], rfl⟩
theorem lowest_nat (d n : Nat) (w : World) (hd : d ≤ 12) :
    Calls Tryd.prog 31 #[.int .i64 d, .int .i64 n] w fun e w' => e = .returned (.int .i64 ((n % 2 ^ d : Nat) : Int)) ∧ w = w' :=
  (lowest_any d n w hd).mono fun _ _ h => ⟨by rw [h.1, Int.natCast_emod], h.2⟩
set_option maxHeartbeats 400000 in
theorem number_any (n : Int) (w : World) (h1 : -9223372036854775808 ≤ n) (h2 : n ≤ 9223372036854775807) :
    Calls Tryd.prog 32 #[.int .i64 n] w fun e w' => e = .returned (.int .i64 (Sm.nv (Sm.red n))) ∧ w = w' := by
  have ht := Sm.tmod_twice n
  obtain ⟨a, b⟩ := Sm.tmod_bd n
  go_enter Tryd.func32, Tryd.ntmps32
  go_wp2
  go_ret
  exact ⟨rfl, rfl⟩
def okEnc (d : Int) : Bool := decide (1 ≤ d) && decide (d ≤ 12)
def okSq (d : Int) : Bool := decide (1 ≤ d) && decide (d ≤ 11)
set_option maxHeartbeats 400000 in
theorem mayBeEncoded_any (d : Int) (w : World) : Calls Tryd.prog 27 #[.int .i64 d] w fun e w' => e = .returned (.bool (okEnc d)) ∧ w = w' := by
  unfold okEnc
  by_cases h1 : 1 ≤ d
  · by_cases h2 : d ≤ 12
    · rw [decide_eq_true h1, decide_eq_true h2]
      go_enter Tryd.func27, Tryd.ntmps27
      go_wp2
      go_ret
      exact ⟨rfl, rfl⟩
    · rw [decide_eq_true h1, decide_eq_false h2]
      go_enter Tryd.func27, Tryd.ntmps27
      go_wp2
      go_ret
      exact ⟨rfl, rfl⟩
  · rw [decide_eq_false h1]
    go_enter Tryd.func27, Tryd.ntmps27
    go_wp2
    go_ret
    exact ⟨rfl, rfl⟩
set_option maxHeartbeats 400000 in
theorem mayBeSqueezed_any (d : Int) (w : World) : Calls Tryd.prog 30 #[.int .i64 d] w fun e w' => e = .returned (.bool (okSq d)) ∧ w = w' := by
  unfold okSq
  by_cases h1 : 1 ≤ d
  · by_cases h2 : d ≤ 11
    · rw [decide_eq_true h1, decide_eq_true h2]
      go_enter Tryd.func30, Tryd.ntmps30
      go_wp2
      go_ret
      exact ⟨rfl, rfl⟩
    · rw [decide_eq_true h1, decide_eq_false h2]
      go_enter Tryd.func30, Tryd.ntmps30
      go_wp2
      go_ret
      exact ⟨rfl, rfl⟩
  · rw [decide_eq_false h1]
    go_enter Tryd.func30, Tryd.ntmps30
    go_wp2
    go_ret
    exact ⟨rfl, rfl⟩
set_option maxHeartbeats 400000 in
theorem encodedBytes_any (d : Nat) (w : World) (hd : d ≤ 12) : Calls Tryd.prog 28 #[.int .i64 d] w fun e w' => e = .returned (.int .i64 ((32 * d : Nat) : Int)) ∧ w = w' := by
  go_enter Tryd.func28, Tryd.ntmps28
  go_wp2
  go_ret
  exact ⟨by show Ending.returned (.int .i64 ((d : Int) * 256 / 8)) = _; rw [show (d : Int) * 256 / 8 = ((32 * d : Nat) : Int) by omega], rfl⟩

/-! ### Squeeze, Stretch -/
/-- a number's remainder by q, as a natural one -/
def rq (n : Int) : Nat := (n % 3329).toNat
theorem rq_lt (n : Int) : rq n < 3329 := by unfold rq; omega
theorem nv_rq (n : Int) : Sm.nv (Sm.red n) = (rq n : Int) := by rw [Sm.nv_red]; unfold rq; omega
/-- a number's remainder by 2^d -/
def rd2 (d : Nat) (n : Int) : Nat := (n % ((2 ^ d : Nat) : Int)).toNat
theorem rd2_lt (d : Nat) (n : Int) : rd2 d n < 2 ^ d := by
  unfold rd2
  have hp : 0 < 2 ^ d := Nat.two_pow_pos d
  have h2 : 0 ≤ n % ((2 ^ d : Nat) : Int) := Int.emod_nonneg _ (by omega)
  have h3 : n % ((2 ^ d : Nat) : Int) < ((2 ^ d : Nat) : Int) := Int.emod_lt_of_pos _ (by omega)
  omega
theorem rd2_is (d : Nat) (n : Int) : n % ((2 ^ d : Nat) : Int) = (rd2 d n : Int) := by
  unfold rd2
  have hp : 0 < 2 ^ d := Nat.two_pow_pos d
  have h2 : 0 ≤ n % ((2 ^ d : Nat) : Int) := Int.emod_nonneg _ (by omega)
  omega
theorem rd2_nat (d n : Nat) : rd2 d (n : Int) = n % 2 ^ d := by
  unfold rd2; rw [← Int.natCast_emod]; rfl
def squeezed (d n : Int) : Int := if 1 ≤ d ∧ d ≤ 11 then (sqz d.toNat (rq n) : Int) else 0
def stretched (d n : Int) : Int := if 1 ≤ d ∧ d ≤ 11 then (str d.toNat (rd2 d.toNat n) : Int) else 0
theorem shl_bd (x d : Nat) (hx : x < 3329) (hd : d ≤ 11) : 0 ≤ (x : Int) * 2 ^ d ∧ (x : Int) * 2 ^ d ≤ 6815744 := by
  rw [pow_int, ← Int.natCast_mul]
  have h1 : x * 2 ^ d ≤ 3328 * 2 ^ 11 := Nat.mul_le_mul (by omega) (pow_le hd)
  omega
set_option maxHeartbeats 800000 in
theorem squeeze_ok (d : Nat) (n : Int) (w : World) (h1 : 1 ≤ d) (h2 : d ≤ 11) (h3 : -9223372036854775808 ≤ n) (h4 : n ≤ 9223372036854775807) :
    Calls Tryd.prog 15 #[.int .i64 d, .int .i64 n] w fun e w' => e = .returned (.int .i64 (sqz d (rq n))) ∧ w = w' := by
  have hok : okSq (d : Int) = true := by unfold okSq; rw [decide_eq_true (by omega), decide_eq_true (by omega)]; rfl
  go_enter Tryd.func15, Tryd.ntmps15
  go_wp2_with fail
  refine (mayBeSqueezed_any _ _).mono ?_
  rintro e w' ⟨rfl, rfl⟩
  rw [hok]
  go_wp2_with fail
  refine (number_any n _ h3 h4).mono ?_
  rintro e w' ⟨rfl, rfl⟩
  rw [nv_rq]
  have hx := rq_lt n
  clear hok h3 h4
  obtain ⟨x, hq⟩ : ∃ x, rq n = x := ⟨_, rfl⟩
  rw [hq] at hx
  rw [hq]
  obtain ⟨S, hs⟩ : ∃ S, sqz d x = S := ⟨_, rfl⟩
  have HQ : Hid (Unit → sqz d (rq n) = S) := Lib.hid fun _ => by rw [hq, hs]
  replace hs : S = (x * 2 ^ d + 1664) / 3329 % 2 ^ d := hs.symm
  clear hq
  obtain ⟨hp1, hp2⟩ := shl_bd x d hx h2
  have e1 : ((x : Int) * 2 ^ d + 1664) / 3329 = (((x * 2 ^ d + 1664) / 3329 : Nat) : Int) := by rw [pow_int]; omega
  have HS := Lib.hid (fun _ : Unit => hs); have E1 := Lib.hid (fun _ : Unit => e1); clear hs e1
  go_wp2_with fail
  rw [E1.out ()]
  refine (lowest_nat d _ _ (by omega)).mono ?_
  rintro e w' ⟨rfl, rfl⟩
  rw [← HS.out ()]
  go_wp2
  go_ret
  exact ⟨by rw [HQ.out ()]; rfl, rfl⟩
set_option maxHeartbeats 800000 in
theorem squeeze_no (d n : Int) (w : World) (h : d < 1 ∨ 11 < d) :
    Calls Tryd.prog 15 #[.int .i64 d, .int .i64 n] w fun e w' => e = .returned (.int .i64 0) ∧ w = w' := by
  have hok : okSq d = false := by
    unfold okSq
    rcases h with h | h
    · rw [decide_eq_false (by omega)]; rfl
    · rw [decide_eq_false (p := d ≤ 11) (by omega)]; simp
  clear h
  go_enter Tryd.func15, Tryd.ntmps15
  go_wp2_with fail
  refine (mayBeSqueezed_any _ _).mono ?_
  rintro e w' ⟨rfl, rfl⟩
  rw [hok]
  go_wp2
  go_ret
  exact ⟨rfl, rfl⟩
theorem squeeze_any (d n : Int) (w : World) (h3 : -9223372036854775808 ≤ n) (h4 : n ≤ 9223372036854775807) :
    Calls Tryd.prog 15 #[.int .i64 d, .int .i64 n] w fun e w' => e = .returned (.int .i64 (squeezed d n)) ∧ w = w' := by
  unfold squeezed
  by_cases h : 1 ≤ d ∧ d ≤ 11
  · rw [if_pos h]
    obtain ⟨k, rfl⟩ : ∃ k : Nat, d = k := ⟨d.toNat, by omega⟩
    exact squeeze_ok k n w (by omega) (by omega) h3 h4
  · rw [if_neg h]
    exact squeeze_no d n w (by omega)
theorem lowest_same (d : Nat) (n : Int) (w : World) (hd : d ≤ 12) :
    Calls Tryd.prog 31 #[.int .i64 d, .int .i64 n] w fun e w' => e = .returned (.int .i64 (rd2 d n)) ∧ w' = w :=
  (lowest_any d n w hd).mono fun _ _ h => ⟨by rw [h.1, rd2_is], h.2.symm⟩
theorem half_bd (d : Nat) (hd : d ≤ 11) : 0 ≤ (2 : Int) ^ (d - 1) ∧ (2 : Int) ^ (d - 1) ≤ 1024 := by
  rw [pow_int]
  have h1 : 2 ^ (d - 1) ≤ 2 ^ 10 := pow_le (by omega)
  generalize 2 ^ (d - 1) = k at *
  omega
set_option maxHeartbeats 800000 in
theorem stretch_ok (d : Nat) (n : Int) (w : World) (h1 : 1 ≤ d) (h2 : d ≤ 11) :
    Calls Tryd.prog 17 #[.int .i64 d, .int .i64 n] w fun e w' => e = .returned (.int .i64 (str d (rd2 d n))) ∧ ∃ k, w' = w.drewN k := by
  have hok : okSq (d : Int) = true := by unfold okSq; rw [decide_eq_true (by omega), decide_eq_true (by omega)]; rfl
  go_enter Tryd.func17, Tryd.ntmps17
  go_wp2_with fail
  refine (mayBeSqueezed_any _ _).mono ?_
  rintro e w' ⟨rfl, rfl⟩
  rw [hok]
  have hy := rd2_lt d n
  have hy2 : 2 ^ d ≤ 2 ^ 11 := pow_le h2
  have hs : str d (rd2 d n) = (3329 * rd2 d n + 2 ^ (d - 1)) / 2 ^ d := rfl
  obtain ⟨hp1, hp2⟩ := half_bd d h2
  have hj : ((d : Int) - 1).toNat = d - 1 := by omega
  obtain ⟨S, hS⟩ : ∃ S, str d (rd2 d n) = S := ⟨_, rfl⟩
  have HQ : Hid (Unit → str d (rd2 d n) = S) := Lib.hid fun _ => hS
  have hL := lowest_same d n w.drew (by omega)
  obtain ⟨y, hy0⟩ : ∃ y, rd2 d n = y := ⟨_, rfl⟩
  rw [hy0] at hy hs hS hL
  rw [hS] at hs
  have HL := Lib.hid hL; clear hL hy0 hS
  have e1 : IntKind.i64.wrap (3329 * (y : Int)) = 3329 * (y : Int) := by rw [IntKind.wrap_i64]; omega
  have e2 : IntKind.i64.wrap ((d : Int) - 1) = (d : Int) - 1 := by rw [IntKind.wrap_i64]; omega
  have e3 : IntKind.i64.wrap ((2 : Int) ^ (d - 1)) = (2 : Int) ^ (d - 1) := by rw [IntKind.wrap_i64]; omega
  have e4 : IntKind.i64.wrap (3329 * (y : Int) + (2 : Int) ^ (d - 1)) = 3329 * (y : Int) + (2 : Int) ^ (d - 1) := by rw [IntKind.wrap_i64]; omega
  have e5 : (3329 * (y : Int) + (2 : Int) ^ (d - 1)) / (2 : Int) ^ d = (S : Int) := by rw [pow_int, pow_int, hs, Int.natCast_ediv, Int.natCast_add, Int.natCast_mul]; rfl
  clear hp1 hp2 hs
  go_wp2
  refine wp_region_still_tail 10 (by kernel_rfl) (by kernel_rfl) ?_
  simp only [List.take_succ_cons, List.take_zero, List.drop_succ_cons, List.drop_zero]
  repeat still_step
  still_call HL.out
  repeat still_step
  refine wpStill_nil ?_
  change wpList _ _ _ _ _ w.drew
  go_wp2
  go_ret
  exact ⟨by rw [HQ.out ()]; rfl, 1, rfl⟩
theorem stretch_no (d n : Int) (w : World) (h : d < 1 ∨ 11 < d) :
    Calls Tryd.prog 17 #[.int .i64 d, .int .i64 n] w fun e w' => e = .returned (.int .i64 0) ∧ ∃ k, w' = w.drewN k := by
  have hok : okSq d = false := by
    unfold okSq
    rcases h with h | h
    · rw [decide_eq_false (by omega)]; rfl
    · rw [decide_eq_false (p := d ≤ 11) (by omega)]; simp
  clear h
  go_enter Tryd.func17, Tryd.ntmps17
  go_wp2_with fail
  refine (mayBeSqueezed_any _ _).mono ?_
  rintro e w' ⟨rfl, rfl⟩
  rw [hok]
  go_wp2
  go_ret
  exact ⟨rfl, 0, rfl⟩
theorem stretch_any (d n : Int) (w : World) :
    Calls Tryd.prog 17 #[.int .i64 d, .int .i64 n] w fun e w' => e = .returned (.int .i64 (stretched d n)) ∧ ∃ k, w' = w.drewN k := by
  unfold stretched
  by_cases h : 1 ≤ d ∧ d ≤ 11
  · rw [if_pos h]
    obtain ⟨k, rfl⟩ : ∃ k : Nat, d = k := ⟨d.toNat, by omega⟩
    exact stretch_ok k n w (by omega) (by omega)
  · rw [if_neg h]
    exact stretch_no d n w (by omega)
end Go.Proofs.YtdkhiooiakdecaaDoorR.Kp
