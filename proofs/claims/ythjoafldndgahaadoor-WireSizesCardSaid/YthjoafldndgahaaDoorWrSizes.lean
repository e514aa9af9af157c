/- Walks: WireSizes. -/
import Derived.Test.YthjoafldndgahaaDoorWrHead
namespace Go.Proofs.YthjoafldndgahaaDoor.Wr
set_option linter.all false
open Go.RowKit

theorem u32_of_wf {x : Int} (h : (Lit.int .u32 x).wf = true) : ∃ k : Nat, x = k ∧ k < 4294967296 := by
  simp [Lit.wf, IntKind.min, IntKind.max, IntKind.bits, IntKind.signed] at h
  exact ⟨x.toNat, by omega, by omega⟩
theorem u8_of_wf {x : Int} (h : (Lit.int .u8 x).wf = true) : ∃ k : Nat, x = k ∧ k < 256 := by
  simp [Lit.wf, IntKind.min, IntKind.max, IntKind.bits, IntKind.signed] at h
  exact ⟨x.toNat, by omega, by omega⟩
def zeros (n : Nat) : List Nat := List.replicate n 0
theorem gt_zeros (n j : Nat) : gt (zeros n) j = 0 := by
  unfold gt zeros
  rw [List.getD_eq_getElem?_getD]
  by_cases h : j < n
  · rw [List.getElem?_replicate_of_lt h]; rfl
  · rw [List.getElem?_eq_none (by simpa using h)]; rfl
theorem zeros_txt (w : World) (n : Nat) (hn : n ≤ 100000) : Txt Any (w.alloc (.cells (madeCells #[Value.int IntKind.u8 0] n) 5)) (some ⟨w.heap.size, 0, none⟩) n n (zeros n) := by
  have hR := World.rowIs_made w (.int .u8 0) n 5
  exact (Txt.of_row (base := 0) (hR.congr fun i hi => by unfold byteRow wordRow; rw [gt_zeros]; rfl) (by simp [zeros]) (fun j => by rw [gt_zeros]; decide) (Nat.zero_le _) (by omega)).any
theorem getN_put {m k : Nat} (hk : k = 1 ∨ k = 2 ∨ k = 4 ∨ k = 8) (hm : m < 256 ^ k) (hm' : m < 4294967296) : getN (be k m) 0 (k : Int) = (m, k, 0) := by
  have h2 : okS (k : Int) = true := by rcases hk with rfl | rfl | rfl | rfl <;> rfl
  have h1 : okP (be k m).length 0 = true := by rw [be_len]; simp [okP]
  have hv : num (be k m) 0 k = m := by
    unfold num
    rw [List.drop_zero, List.take_of_length_le (by rw [be_len]; omega), val_be, Nat.mod_eq_of_lt hm]
  unfold getN
  rw [if_neg (by rw [h1, h2]; simp), Int.toNat_natCast]
  rw [show (0 : Int).toNat = 0 from rfl, if_neg (by rw [be_len]; omega), hv, if_neg (by omega), Nat.zero_add]
theorem numB_ok {m k : Nat} (hk : k = 1 ∨ k = 2 ∨ k = 4 ∨ k = 8) (hm : m < 256 ^ k) : numB m k = be k m := by
  have h2 : okS (k : Int) = true := by rcases hk with rfl | rfl | rfl | rfl <;> rfl
  unfold numB
  rw [if_pos ⟨h2, by omega, by simpa using hm⟩]; simp
theorem numB_neg (x : Int) : numB (-1) x = [] := by unfold numB; rw [if_neg]; rintro ⟨-, h, -⟩; omega

theorem and_mask (n : Int) (d : Nat) (h : d ≤ 62) : bits .and .i64 n (((2 ^ d : Nat) : Int) - 1) = n % ((2 ^ d : Nat) : Int) := by
  have hp : 0 < 2 ^ d := Nat.two_pow_pos d
  have hl : 2 ^ d ≤ 2 ^ 62 := Nat.pow_le_pow_right (by omega) h
  have h1 : (BitVec.ofInt 64 (((2 ^ d : Nat) : Int) - 1)).toNat = 2 ^ d - 1 := by
    rw [BitVec.toNat_ofInt]
    generalize 2 ^ d = k at *
    omega
  have hd : 2 ^ d ∣ 2 ^ 64 := Nat.pow_dvd_pow 2 (by omega)
  have key : (BitVec.ofInt 64 n &&& BitVec.ofInt 64 (((2 ^ d : Nat) : Int) - 1)).toNat = (n % ((2 ^ 64 : Nat) : Int)).toNat % 2 ^ d := by
    rw [BitVec.toNat_and, BitVec.toNat_ofInt, h1, Nat.and_two_pow_sub_one_eq_mod]
  show IntKind.i64.wrap ((BitVec.ofInt 64 n &&& BitVec.ofInt 64 (((2 ^ d : Nat) : Int) - 1)).toNat : Nat) = _
  rw [key, IntKind.wrap_i64]
  have e1 : (((n % ((2 ^ 64 : Nat) : Int)).toNat % 2 ^ d : Nat) : Int) = n % ((2 ^ d : Nat) : Int) := by
    have h0 : 0 ≤ n % ((2 ^ 64 : Nat) : Int) := Int.emod_nonneg _ (by omega)
    rw [Int.natCast_emod, Int.toNat_of_nonneg h0, Int.emod_emod_of_dvd _ (Int.natCast_dvd_natCast.2 hd)]
  rw [e1]
  have h2 : 0 ≤ n % ((2 ^ d : Nat) : Int) := Int.emod_nonneg _ (by omega)
  have h3 : n % ((2 ^ d : Nat) : Int) < ((2 ^ d : Nat) : Int) := Int.emod_lt_of_pos _ (by omega)
  omega
set_option maxHeartbeats 4000000 in
set_option maxRecDepth 100000 in
theorem wireSizes_walk (a0 a1 : Int) (w : World) (hT : Tables w) (w0 : (Lit.int .u32 a0).wf = true) (w1 : (Lit.int .u8 a1).wf = true) :
    Calls Tryd.prog 8 #[.int .u32 a0, .int .u8 a1] w fun e w' => e = .returned (.bool true) ∧ Below w.heap.size w w' := by
  obtain ⟨N, rfl, hN⟩ := u32_of_wf w0
  obtain ⟨z, rfl, hz⟩ := u8_of_wf w1
  clear w0 w1
  have hlt := hT.lt
  have HT := Lib.hid hT; clear hT
  obtain ⟨k, hk, hk'⟩ : ∃ k : Nat, (N : Int) % 20000 = (k : Int) ∧ k < 20000 := ⟨N % 20000, by omega, by omega⟩
  have hk2 : (N : Int).tmod 20000 = (k : Int) := by rw [Int.tmod_eq_emod_of_nonneg (by omega)]; exact hk
  have hmk := fun W => run_make_row' (P := Tryd.prog) 22 5 (.int .u8 0) 1 Tryd.underlying22 (by kernel_rfl) rfl .i64 .i64 k (by omega) (by omega) W
  have HP : Hid (putT (zeros k) = (txB (zeros k), 0)) := Lib.hid (putT_yes (by simp [zeros]; omega))
  obtain ⟨n1, hn1, hn2⟩ : ∃ n1 : Nat, n1 = szB k + k ∧ (txB (zeros k)).length = n1 := ⟨_, rfl, by rw [txB_len]; simp [zeros]⟩
  have HN2 := Lib.hid hn2; clear hn2
  go_enter Tryd.func8, Tryd.ntmps8
  go_wp2_with fail
  refine (head_any w HT.out).mono ?_
  rintro e' v0 ⟨rfl, hB0⟩
  have HB0 := Lib.hid hB0; clear hB0
  have HX0 := Lib.hid (zeros_txt v0 k (by omega))
  have HB1 := Lib.hid (HB0.out.alloc HB0.out.size (.cells (madeCells #[Value.int IntKind.u8 0] k) 5))
  go_wp2_with fail
  generalize v0.alloc (.cells (madeCells #[Value.int IntKind.u8 0] k) 5) = v1 at *
  refine (text_any _ (zeros k) k k v1 (HT.out.below HB1.out hlt) HX0.out _ HP).mono ?_
  rintro e' v2 ⟨A2, n2, c2, rfl, hX2, hB2⟩
  obtain rfl : n2 = n1 := by rw [← hX2.len]; exact HN2.out
  have HB2 := Lib.hid (HB1.out.trans (hB2.mono HB1.out.size)); clear hX2 hB2 hmk
  obtain ⟨r, hr, hr4⟩ : ∃ r : Nat, (z : Int) % 4 = (r : Int) ∧ r < 4 := ⟨z % 4, by omega, by omega⟩
  have hr2 : (z : Int).tmod 4 = (r : Int) := by rw [Int.tmod_eq_emod_of_nonneg (by omega)]; exact hr
  have hcase : (k < 64 ∧ n2 = k + 1) ∨ (64 ≤ k ∧ k < 16384 ∧ n2 = k + 2) ∨ (16384 ≤ k ∧ n2 = k + 4) := by
    rcases szB_cases k with ⟨h1, e⟩ | ⟨h1, h2, e⟩ | ⟨h1, e⟩ <;> omega
  clear hn1
  have hr' : r = 0 ∨ r = 1 ∨ r = 2 ∨ r = 3 := by omega
  rcases hcase with ⟨q1, rfl⟩ | ⟨q1, q2, rfl⟩ | ⟨q1, rfl⟩
  · have x1 : ¬ (64 : Int) ≤ (k : Int) := by omega
    have x2 : ¬ (16384 : Int) ≤ (k : Int) := by omega
    rcases hr' with rfl | rfl | rfl | rfl
    · obtain ⟨m, hm, hm'⟩ : ∃ m : Nat, (N : Int) % 256 = (m : Int) ∧ m < 256 := ⟨N % 256, by omega, by omega⟩
      have hb : bits .and .i64 (N : Int) 255 = (m : Int) := by rw [← hm]; exact and_mask N 8 (by omega)
      have HNB := Lib.hid (show numB (m : Int) 1 = be 1 m from numB_ok (k := 1) (by omega) (by omega))
      have HGN := Lib.hid (show getN (be 1 m) 0 1 = (m, 1, 0) from getN_put (k := 1) (by omega) (by omega) (by omega))
      go_wp2_with fail
      refine (number_any m 1 v2 (by omega)).mono ?_
      rintro e' v3 ⟨A3, n3, c3, rfl, hX3, hB3⟩
      have HB3 := Lib.hid (HB2.out.trans (hB3.mono HB2.out.size))
      rw [HNB.out] at hX3
      obtain rfl : 1 = n3 := by rw [← hX3.len, be_len]
      have HX3 := Lib.hid hX3.any
      clear hX3 hB3
      go_wp2_with fail
      refine getNumber_any A3 _ 1 c3 0 1 _ _ HX3.out (by omega) (Lib.hid ?_)
      rintro e' v4 ⟨rfl, rfl⟩
      rw [HGN.out]
      go_wp2_with fail
      refine (number_any (-1) 1 v3 (by omega)).mono ?_
      rintro e' v5 ⟨A5, n5, c5, rfl, hX5, hB5⟩
      have HB5 := Lib.hid (HB3.out.trans (hB5.mono HB3.out.size))
      rw [numB_neg] at hX5
      obtain rfl : 0 = n5 := hX5.len
      clear hX5 hB5
      go_wp2
      go_ret
      exact ⟨rfl, HB5.out⟩
    · obtain ⟨m, hm, hm'⟩ : ∃ m : Nat, (N : Int) % 65536 = (m : Int) ∧ m < 65536 := ⟨N % 65536, by omega, by omega⟩
      have hb : bits .and .i64 (N : Int) 65535 = (m : Int) := by rw [← hm]; exact and_mask N 16 (by omega)
      have HNB := Lib.hid (show numB (m : Int) 2 = be 2 m from numB_ok (k := 2) (by omega) (by omega))
      have HGN := Lib.hid (show getN (be 2 m) 0 2 = (m, 2, 0) from getN_put (k := 2) (by omega) (by omega) (by omega))
      go_wp2_with fail
      refine (number_any m 2 v2 (by omega)).mono ?_
      rintro e' v3 ⟨A3, n3, c3, rfl, hX3, hB3⟩
      have HB3 := Lib.hid (HB2.out.trans (hB3.mono HB2.out.size))
      rw [HNB.out] at hX3
      obtain rfl : 2 = n3 := by rw [← hX3.len, be_len]
      have HX3 := Lib.hid hX3.any
      clear hX3 hB3
      go_wp2_with fail
      refine getNumber_any A3 _ 2 c3 0 2 _ _ HX3.out (by omega) (Lib.hid ?_)
      rintro e' v4 ⟨rfl, rfl⟩
      rw [HGN.out]
      go_wp2_with fail
      refine (number_any (-1) 2 v3 (by omega)).mono ?_
      rintro e' v5 ⟨A5, n5, c5, rfl, hX5, hB5⟩
      have HB5 := Lib.hid (HB3.out.trans (hB5.mono HB3.out.size))
      rw [numB_neg] at hX5
      obtain rfl : 0 = n5 := hX5.len
      clear hX5 hB5
      go_wp2
      go_ret
      exact ⟨rfl, HB5.out⟩
    · obtain ⟨m, hm⟩ : ∃ m : Nat, N = m := ⟨_, rfl⟩
      have hm' : m < 4294967296 := by omega
      subst hm
      have HNB := Lib.hid (show numB (N : Int) 4 = be 4 N from numB_ok (k := 4) (by omega) (by omega))
      have HGN := Lib.hid (show getN (be 4 N) 0 4 = (N, 4, 0) from getN_put (k := 4) (by omega) (by omega) (by omega))
      go_wp2_with fail
      refine (number_any N 4 v2 (by omega)).mono ?_
      rintro e' v3 ⟨A3, n3, c3, rfl, hX3, hB3⟩
      have HB3 := Lib.hid (HB2.out.trans (hB3.mono HB2.out.size))
      rw [HNB.out] at hX3
      obtain rfl : 4 = n3 := by rw [← hX3.len, be_len]
      have HX3 := Lib.hid hX3.any
      clear hX3 hB3
      go_wp2_with fail
      refine getNumber_any A3 _ 4 c3 0 4 _ _ HX3.out (by omega) (Lib.hid ?_)
      rintro e' v4 ⟨rfl, rfl⟩
      rw [HGN.out]
      go_wp2_with fail
      refine (number_any (-1) 4 v3 (by omega)).mono ?_
      rintro e' v5 ⟨A5, n5, c5, rfl, hX5, hB5⟩
      have HB5 := Lib.hid (HB3.out.trans (hB5.mono HB3.out.size))
      rw [numB_neg] at hX5
      obtain rfl : 0 = n5 := hX5.len
      clear hX5 hB5
      go_wp2
      go_ret
      exact ⟨rfl, HB5.out⟩
    · obtain ⟨m, hm⟩ : ∃ m : Nat, N = m := ⟨_, rfl⟩
      have hm' : m < 4294967296 := by omega
      subst hm
      have HNB := Lib.hid (show numB (N : Int) 8 = be 8 N from numB_ok (k := 8) (by omega) (by omega))
      have HGN := Lib.hid (show getN (be 8 N) 0 8 = (N, 8, 0) from getN_put (k := 8) (by omega) (by omega) (by omega))
      go_wp2_with fail
      refine (number_any N 8 v2 (by omega)).mono ?_
      rintro e' v3 ⟨A3, n3, c3, rfl, hX3, hB3⟩
      have HB3 := Lib.hid (HB2.out.trans (hB3.mono HB2.out.size))
      rw [HNB.out] at hX3
      obtain rfl : 8 = n3 := by rw [← hX3.len, be_len]
      have HX3 := Lib.hid hX3.any
      clear hX3 hB3
      go_wp2_with fail
      refine getNumber_any A3 _ 8 c3 0 8 _ _ HX3.out (by omega) (Lib.hid ?_)
      rintro e' v4 ⟨rfl, rfl⟩
      rw [HGN.out]
      go_wp2_with fail
      refine (number_any (-1) 8 v3 (by omega)).mono ?_
      rintro e' v5 ⟨A5, n5, c5, rfl, hX5, hB5⟩
      have HB5 := Lib.hid (HB3.out.trans (hB5.mono HB3.out.size))
      rw [numB_neg] at hX5
      obtain rfl : 0 = n5 := hX5.len
      clear hX5 hB5
      go_wp2
      go_ret
      exact ⟨rfl, HB5.out⟩
  · have x1 : (64 : Int) ≤ (k : Int) := by omega
    have x2 : ¬ (16384 : Int) ≤ (k : Int) := by omega
    rcases hr' with rfl | rfl | rfl | rfl
    · obtain ⟨m, hm, hm'⟩ : ∃ m : Nat, (N : Int) % 256 = (m : Int) ∧ m < 256 := ⟨N % 256, by omega, by omega⟩
      have hb : bits .and .i64 (N : Int) 255 = (m : Int) := by rw [← hm]; exact and_mask N 8 (by omega)
      have HNB := Lib.hid (show numB (m : Int) 1 = be 1 m from numB_ok (k := 1) (by omega) (by omega))
      have HGN := Lib.hid (show getN (be 1 m) 0 1 = (m, 1, 0) from getN_put (k := 1) (by omega) (by omega) (by omega))
      go_wp2_with fail
      refine (number_any m 1 v2 (by omega)).mono ?_
      rintro e' v3 ⟨A3, n3, c3, rfl, hX3, hB3⟩
      have HB3 := Lib.hid (HB2.out.trans (hB3.mono HB2.out.size))
      rw [HNB.out] at hX3
      obtain rfl : 1 = n3 := by rw [← hX3.len, be_len]
      have HX3 := Lib.hid hX3.any
      clear hX3 hB3
      go_wp2_with fail
      refine getNumber_any A3 _ 1 c3 0 1 _ _ HX3.out (by omega) (Lib.hid ?_)
      rintro e' v4 ⟨rfl, rfl⟩
      rw [HGN.out]
      go_wp2_with fail
      refine (number_any (-1) 1 v3 (by omega)).mono ?_
      rintro e' v5 ⟨A5, n5, c5, rfl, hX5, hB5⟩
      have HB5 := Lib.hid (HB3.out.trans (hB5.mono HB3.out.size))
      rw [numB_neg] at hX5
      obtain rfl : 0 = n5 := hX5.len
      clear hX5 hB5
      go_wp2
      go_ret
      exact ⟨rfl, HB5.out⟩
    · obtain ⟨m, hm, hm'⟩ : ∃ m : Nat, (N : Int) % 65536 = (m : Int) ∧ m < 65536 := ⟨N % 65536, by omega, by omega⟩
      have hb : bits .and .i64 (N : Int) 65535 = (m : Int) := by rw [← hm]; exact and_mask N 16 (by omega)
      have HNB := Lib.hid (show numB (m : Int) 2 = be 2 m from numB_ok (k := 2) (by omega) (by omega))
      have HGN := Lib.hid (show getN (be 2 m) 0 2 = (m, 2, 0) from getN_put (k := 2) (by omega) (by omega) (by omega))
      go_wp2_with fail
      refine (number_any m 2 v2 (by omega)).mono ?_
      rintro e' v3 ⟨A3, n3, c3, rfl, hX3, hB3⟩
      have HB3 := Lib.hid (HB2.out.trans (hB3.mono HB2.out.size))
      rw [HNB.out] at hX3
      obtain rfl : 2 = n3 := by rw [← hX3.len, be_len]
      have HX3 := Lib.hid hX3.any
      clear hX3 hB3
      go_wp2_with fail
      refine getNumber_any A3 _ 2 c3 0 2 _ _ HX3.out (by omega) (Lib.hid ?_)
      rintro e' v4 ⟨rfl, rfl⟩
      rw [HGN.out]
      go_wp2_with fail
      refine (number_any (-1) 2 v3 (by omega)).mono ?_
      rintro e' v5 ⟨A5, n5, c5, rfl, hX5, hB5⟩
      have HB5 := Lib.hid (HB3.out.trans (hB5.mono HB3.out.size))
      rw [numB_neg] at hX5
      obtain rfl : 0 = n5 := hX5.len
      clear hX5 hB5
      go_wp2
      go_ret
      exact ⟨rfl, HB5.out⟩
    · obtain ⟨m, hm⟩ : ∃ m : Nat, N = m := ⟨_, rfl⟩
      have hm' : m < 4294967296 := by omega
      subst hm
      have HNB := Lib.hid (show numB (N : Int) 4 = be 4 N from numB_ok (k := 4) (by omega) (by omega))
      have HGN := Lib.hid (show getN (be 4 N) 0 4 = (N, 4, 0) from getN_put (k := 4) (by omega) (by omega) (by omega))
      go_wp2_with fail
      refine (number_any N 4 v2 (by omega)).mono ?_
      rintro e' v3 ⟨A3, n3, c3, rfl, hX3, hB3⟩
      have HB3 := Lib.hid (HB2.out.trans (hB3.mono HB2.out.size))
      rw [HNB.out] at hX3
      obtain rfl : 4 = n3 := by rw [← hX3.len, be_len]
      have HX3 := Lib.hid hX3.any
      clear hX3 hB3
      go_wp2_with fail
      refine getNumber_any A3 _ 4 c3 0 4 _ _ HX3.out (by omega) (Lib.hid ?_)
      rintro e' v4 ⟨rfl, rfl⟩
      rw [HGN.out]
      go_wp2_with fail
      refine (number_any (-1) 4 v3 (by omega)).mono ?_
      rintro e' v5 ⟨A5, n5, c5, rfl, hX5, hB5⟩
      have HB5 := Lib.hid (HB3.out.trans (hB5.mono HB3.out.size))
      rw [numB_neg] at hX5
      obtain rfl : 0 = n5 := hX5.len
      clear hX5 hB5
      go_wp2
      go_ret
      exact ⟨rfl, HB5.out⟩
    · obtain ⟨m, hm⟩ : ∃ m : Nat, N = m := ⟨_, rfl⟩
      have hm' : m < 4294967296 := by omega
      subst hm
      have HNB := Lib.hid (show numB (N : Int) 8 = be 8 N from numB_ok (k := 8) (by omega) (by omega))
      have HGN := Lib.hid (show getN (be 8 N) 0 8 = (N, 8, 0) from getN_put (k := 8) (by omega) (by omega) (by omega))
      go_wp2_with fail
      refine (number_any N 8 v2 (by omega)).mono ?_
      rintro e' v3 ⟨A3, n3, c3, rfl, hX3, hB3⟩
      have HB3 := Lib.hid (HB2.out.trans (hB3.mono HB2.out.size))
      rw [HNB.out] at hX3
      obtain rfl : 8 = n3 := by rw [← hX3.len, be_len]
      have HX3 := Lib.hid hX3.any
      clear hX3 hB3
      go_wp2_with fail
      refine getNumber_any A3 _ 8 c3 0 8 _ _ HX3.out (by omega) (Lib.hid ?_)
      rintro e' v4 ⟨rfl, rfl⟩
      rw [HGN.out]
      go_wp2_with fail
      refine (number_any (-1) 8 v3 (by omega)).mono ?_
      rintro e' v5 ⟨A5, n5, c5, rfl, hX5, hB5⟩
      have HB5 := Lib.hid (HB3.out.trans (hB5.mono HB3.out.size))
      rw [numB_neg] at hX5
      obtain rfl : 0 = n5 := hX5.len
      clear hX5 hB5
      go_wp2
      go_ret
      exact ⟨rfl, HB5.out⟩
  · have x1 : (64 : Int) ≤ (k : Int) := by omega
    have x2 : (16384 : Int) ≤ (k : Int) := by omega
    rcases hr' with rfl | rfl | rfl | rfl
    · obtain ⟨m, hm, hm'⟩ : ∃ m : Nat, (N : Int) % 256 = (m : Int) ∧ m < 256 := ⟨N % 256, by omega, by omega⟩
      have hb : bits .and .i64 (N : Int) 255 = (m : Int) := by rw [← hm]; exact and_mask N 8 (by omega)
      have HNB := Lib.hid (show numB (m : Int) 1 = be 1 m from numB_ok (k := 1) (by omega) (by omega))
      have HGN := Lib.hid (show getN (be 1 m) 0 1 = (m, 1, 0) from getN_put (k := 1) (by omega) (by omega) (by omega))
      go_wp2_with fail
      refine (number_any m 1 v2 (by omega)).mono ?_
      rintro e' v3 ⟨A3, n3, c3, rfl, hX3, hB3⟩
      have HB3 := Lib.hid (HB2.out.trans (hB3.mono HB2.out.size))
      rw [HNB.out] at hX3
      obtain rfl : 1 = n3 := by rw [← hX3.len, be_len]
      have HX3 := Lib.hid hX3.any
      clear hX3 hB3
      go_wp2_with fail
      refine getNumber_any A3 _ 1 c3 0 1 _ _ HX3.out (by omega) (Lib.hid ?_)
      rintro e' v4 ⟨rfl, rfl⟩
      rw [HGN.out]
      go_wp2_with fail
      refine (number_any (-1) 1 v3 (by omega)).mono ?_
      rintro e' v5 ⟨A5, n5, c5, rfl, hX5, hB5⟩
      have HB5 := Lib.hid (HB3.out.trans (hB5.mono HB3.out.size))
      rw [numB_neg] at hX5
      obtain rfl : 0 = n5 := hX5.len
      clear hX5 hB5
      go_wp2
      go_ret
      exact ⟨rfl, HB5.out⟩
    · obtain ⟨m, hm, hm'⟩ : ∃ m : Nat, (N : Int) % 65536 = (m : Int) ∧ m < 65536 := ⟨N % 65536, by omega, by omega⟩
      have hb : bits .and .i64 (N : Int) 65535 = (m : Int) := by rw [← hm]; exact and_mask N 16 (by omega)
      have HNB := Lib.hid (show numB (m : Int) 2 = be 2 m from numB_ok (k := 2) (by omega) (by omega))
      have HGN := Lib.hid (show getN (be 2 m) 0 2 = (m, 2, 0) from getN_put (k := 2) (by omega) (by omega) (by omega))
      go_wp2_with fail
      refine (number_any m 2 v2 (by omega)).mono ?_
      rintro e' v3 ⟨A3, n3, c3, rfl, hX3, hB3⟩
      have HB3 := Lib.hid (HB2.out.trans (hB3.mono HB2.out.size))
      rw [HNB.out] at hX3
      obtain rfl : 2 = n3 := by rw [← hX3.len, be_len]
      have HX3 := Lib.hid hX3.any
      clear hX3 hB3
      go_wp2_with fail
      refine getNumber_any A3 _ 2 c3 0 2 _ _ HX3.out (by omega) (Lib.hid ?_)
      rintro e' v4 ⟨rfl, rfl⟩
      rw [HGN.out]
      go_wp2_with fail
      refine (number_any (-1) 2 v3 (by omega)).mono ?_
      rintro e' v5 ⟨A5, n5, c5, rfl, hX5, hB5⟩
      have HB5 := Lib.hid (HB3.out.trans (hB5.mono HB3.out.size))
      rw [numB_neg] at hX5
      obtain rfl : 0 = n5 := hX5.len
      clear hX5 hB5
      go_wp2
      go_ret
      exact ⟨rfl, HB5.out⟩
    · obtain ⟨m, hm⟩ : ∃ m : Nat, N = m := ⟨_, rfl⟩
      have hm' : m < 4294967296 := by omega
      subst hm
      have HNB := Lib.hid (show numB (N : Int) 4 = be 4 N from numB_ok (k := 4) (by omega) (by omega))
      have HGN := Lib.hid (show getN (be 4 N) 0 4 = (N, 4, 0) from getN_put (k := 4) (by omega) (by omega) (by omega))
      go_wp2_with fail
      refine (number_any N 4 v2 (by omega)).mono ?_
      rintro e' v3 ⟨A3, n3, c3, rfl, hX3, hB3⟩
      have HB3 := Lib.hid (HB2.out.trans (hB3.mono HB2.out.size))
      rw [HNB.out] at hX3
      obtain rfl : 4 = n3 := by rw [← hX3.len, be_len]
      have HX3 := Lib.hid hX3.any
      clear hX3 hB3
      go_wp2_with fail
      refine getNumber_any A3 _ 4 c3 0 4 _ _ HX3.out (by omega) (Lib.hid ?_)
      rintro e' v4 ⟨rfl, rfl⟩
      rw [HGN.out]
      go_wp2_with fail
      refine (number_any (-1) 4 v3 (by omega)).mono ?_
      rintro e' v5 ⟨A5, n5, c5, rfl, hX5, hB5⟩
      have HB5 := Lib.hid (HB3.out.trans (hB5.mono HB3.out.size))
      rw [numB_neg] at hX5
      obtain rfl : 0 = n5 := hX5.len
      clear hX5 hB5
      go_wp2
      go_ret
      exact ⟨rfl, HB5.out⟩
    · obtain ⟨m, hm⟩ : ∃ m : Nat, N = m := ⟨_, rfl⟩
      have hm' : m < 4294967296 := by omega
      subst hm
      have HNB := Lib.hid (show numB (N : Int) 8 = be 8 N from numB_ok (k := 8) (by omega) (by omega))
      have HGN := Lib.hid (show getN (be 8 N) 0 8 = (N, 8, 0) from getN_put (k := 8) (by omega) (by omega) (by omega))
      go_wp2_with fail
      refine (number_any N 8 v2 (by omega)).mono ?_
      rintro e' v3 ⟨A3, n3, c3, rfl, hX3, hB3⟩
      have HB3 := Lib.hid (HB2.out.trans (hB3.mono HB2.out.size))
      rw [HNB.out] at hX3
      obtain rfl : 8 = n3 := by rw [← hX3.len, be_len]
      have HX3 := Lib.hid hX3.any
      clear hX3 hB3
      go_wp2_with fail
      refine getNumber_any A3 _ 8 c3 0 8 _ _ HX3.out (by omega) (Lib.hid ?_)
      rintro e' v4 ⟨rfl, rfl⟩
      rw [HGN.out]
      go_wp2_with fail
      refine (number_any (-1) 8 v3 (by omega)).mono ?_
      rintro e' v5 ⟨A5, n5, c5, rfl, hX5, hB5⟩
      have HB5 := Lib.hid (HB3.out.trans (hB5.mono HB3.out.size))
      rw [numB_neg] at hX5
      obtain rfl : 0 = n5 := hX5.len
      clear hX5 hB5
      go_wp2
      go_ret
      exact ⟨rfl, HB5.out⟩
end Go.Proofs.YthjoafldndgahaaDoor.Wr
