/- The document's own: getLength, GetText. -/
import Derived.Test.YthjoafldndgahaaDoorWrRefC
import Derived.Test.YthjoafldndgahaaDoorWrWalkG
namespace Go.Proofs.YthjoafldndgahaaDoor.Wr
set_option linter.all false
open Go.RowKit

theorem num_split (b : List Nat) (hb : ∀ j, gt b j < 256) (p k : Nat) (h : p + (k + 1) ≤ b.length) : ∃ y, num b p (k + 1) = gt b p * 256 ^ k + y ∧ y < 256 ^ k := by
  have h0 : (b.drop p).take (k + 1) = gt b p :: (b.drop (p + 1)).take k := by
    rw [List.drop_eq_getElem_cons (show p < b.length by omega), List.take_succ_cons]
    congr 1
    unfold gt; rw [List.getD_eq_getElem?_getD, List.getElem?_eq_getElem (show p < b.length by omega)]; rfl
  have hl : ((b.drop (p + 1)).take k).length = k := by rw [List.length_take, List.length_drop]; omega
  have h1 := val_lt ((b.drop (p + 1)).take k) (all_lt (take_lt (drop_lt hb _) _))
  rw [hl] at h1
  refine ⟨_, ?_, h1⟩
  unfold num
  rw [h0, val, hl]
theorem i64_or_nat (a b : Nat) (ha : a < 2 ^ 62) (hb : b < 2 ^ 62) : bits .or .i64 (a : Int) (b : Int) = ((a ||| b : Nat) : Int) := by
  have h1 : (BitVec.ofInt 64 (a : Int)).toNat = a := by rw [BitVec.toNat_ofInt]; omega
  have h2 : (BitVec.ofInt 64 (b : Int)).toNat = b := by rw [BitVec.toNat_ofInt]; omega
  have h3 : a ||| b < 2 ^ 62 := Nat.or_lt_two_pow ha hb
  show IntKind.i64.wrap ((BitVec.ofInt 64 (a : Int) ||| BitVec.ofInt 64 (b : Int)).toNat : Nat) = _
  rw [BitVec.toNat_or, h1, h2, IntKind.wrap_i64]
  omega
theorem or_i64 {V x W : Nat} (hV : V < 16777216) (hx : x < 256) (h : W = V * 256 + x) : bits .or .i64 ((V : Int) * 256) (x : Int) = (W : Int) := by
  subst h
  rw [show ((V : Int) * 256) = ((V * 256 : Nat) : Int) by omega, i64_or_nat _ _ (by omega) (by omega), or_join _ _ hx]
theorem pow_step (c j : Nat) (h : 1 ≤ j) : c * 256 ^ j = c * 256 ^ (j - 1) * 256 := by
  obtain ⟨i, rfl⟩ : ∃ i, j = i + 1 := ⟨j - 1, by omega⟩
  rw [Nat.add_sub_cancel, Nat.pow_succ, Nat.mul_assoc]
theorem txAt_err {b : List Nat} {p e : Nat} (h : lenAt b p = (0, 0, e)) (he : e ≠ 0) : txAt b p = (0, 0, e) := by
  unfold txAt; rw [h]; dsimp only; rw [if_pos he]
theorem step_num {V P N x M : Nat} (h : V + P = N) (hs : M = N * 256 + x) : V * 256 + x + P * 256 = M := by omega

/-- what the document tells of a length: it, the place behind, the error -/
def SayG (r : Nat × Nat × Nat) (w : World) (e : Ending) (w' : World) : Prop := e = .returned (.tuple #[.int .i64 ((r.2.1 - r.1 : Nat) : Int), .int .i64 r.1, .int .i64 r.2.2]) ∧ Below w.heap.size w w'

set_option maxHeartbeats 4000000 in
set_option maxRecDepth 100000 in
theorem rgetLength_any (A : Option Addr) (b : List Nat) (n c : Nat) (x : Int) (w : World) (hA : Txt Any w A n c b) (hn : n ≤ 8388608) (r : Nat × Nat × Nat) (hr : Hid (txI b x = r)) :
    Calls Tryd.prog 33 #[.slice A n c, .int .i64 x] w (SayG r w) := by
  have hl := hA.len
  by_cases h1 : x < 0
  · have HR := Lib.hid (show r = (0, 0, 1) by rw [← hr.out]; unfold txI; rw [if_pos (.inl h1)])
    clear hl
    go_enter Tryd.func33, Tryd.ntmps33
    go_wp2
    go_ret3
    exact ⟨by rw [HR.out]; rfl, Below.refl _ _⟩
  by_cases h2 : (n : Int) < x
  · have HR := Lib.hid (show r = (0, 0, 1) by rw [← hr.out]; unfold txI; rw [if_pos (.inr (by rw [hl]; exact h2))])
    clear hl
    go_enter Tryd.func33, Tryd.ntmps33
    go_wp2
    go_ret3
    exact ⟨by rw [HR.out]; rfl, Below.refl _ _⟩
  obtain ⟨p, rfl⟩ : ∃ p : Nat, x = p := ⟨x.toNat, by omega⟩
  have hpn : p ≤ n := by omega
  have HR0 : Hid (txAt b p = r) := Lib.hid (by rw [← hr.out, txI_nat _ _ (by omega)])
  by_cases h3 : p = n
  · have HR := Lib.hid (show r = (0, 0, 111) by rw [← HR0.out]; unfold txAt lenAt; rw [if_pos (show b.length ≤ p by omega)]; simp)
    have y1 : (p : Int) = (n : Int) := by omega
    have HH1 := Lib.hid h1; have HH2 := Lib.hid h2
    clear hl
    go_enter Tryd.func33, Tryd.ntmps33
    go_wp2
    go_ret3
    exact ⟨by rw [HR.out]; rfl, Below.refl _ _⟩
  obtain ⟨ad, rfl⟩ := hA.some (by omega)
  have HA := Lib.hid hA
  obtain ⟨q, hq⟩ : ∃ q, gt b p = q := ⟨_, rfl⟩
  have c0 : w.cell? (ad.add p) = some (.int .u8 (q : Nat)) := by rw [← hq]; exact hA.cell p (by omega)
  have hq256 : q < 256 := by rw [← hq]; exact hA.lt p
  have y1 : ¬ (p : Int) = (n : Int) := by omega
  have hpl : p < n := by omega
  have y0 : ¬ (p : Int) < 0 := h1
  have y00 : ¬ (n : Int) < (p : Int) := h2
  clear h1 h2 h3 hA
  by_cases h4 : 192 ≤ q
  · have HR := Lib.hid (show r = (0, 0, 112) by rw [← HR0.out]; unfold txAt; rw [lenAt_big (by omega) (by rw [hq]; exact h4)]; simp)
    have y4 : (192 : Int) ≤ (q : Int) := by omega
    clear hl hq
    go_enter Tryd.func33, Tryd.ntmps33
    go_wp2
    go_ret3
    exact ⟨by rw [HR.out]; rfl, Below.refl _ _⟩
  have y4 : ¬ (192 : Int) ≤ (q : Int) := by omega
  have HCLS := Lib.hid (fun (s : Nat) (hs : cls q = s) => (show lenAt b p = if n < p + s then (0, 0, 111) else if num b p s < least s + mark s then (0, 0, 112) else (num b p s - mark s, p + s, 0) by
    rw [← hl]; exact lenAt_cls (by omega) (by rw [hq]; omega) (by rw [hq]; exact hs)))
  have HSP := Lib.hid (fun (k : Nat) (hk : p + (k + 1) ≤ n) => (show ∃ y, num b p (k + 1) = q * 256 ^ k + y ∧ y < 256 ^ k by rw [← hq]; exact num_split b HA.out.lt p k (by omega)))
  have HSUC := Lib.hid (fun (k : Nat) (hk : p + k < n) => num_succ b p k (by rw [hl]; exact hk))
  have HLTB := Lib.hid HA.out.lt
  clear hl hq
  have hcase : (q < 64) ∨ (64 ≤ q ∧ q < 128) ∨ (128 ≤ q ∧ q < 192) := by omega
  clear h4
  rcases hcase with h5 | h5 | h5
  · have HLA := Lib.hid (show lenAt b p = if n < p + 1 then (0, 0, 111) else if num b p 1 < 0 then (0, 0, 112) else (num b p 1 - 0, p + 1, 0) from HCLS.out 1 (by unfold cls; rw [if_pos (by omega)]))
    have y5 : ¬ (128 : Int) ≤ (q : Int) := by omega
    have y6 : ¬ (64 : Int) ≤ (q : Int) := by omega
    clear HCLS
    have h6 : ¬ n < p + 1 := by omega
    have y7 : ¬ (n : Int) - (p : Int) < 1 := by omega
    obtain ⟨v0, hv0, hv0', hv64⟩ : ∃ v0 : Nat, (q : Int) % 64 = (v0 : Int) ∧ v0 + 0 = q ∧ v0 < 64 := ⟨q - 0, by omega, by omega, by omega⟩
    have hv0t : (q : Int).tmod 64 = (v0 : Int) := by rw [Int.tmod_eq_emod_of_nonneg (by omega)]; exact hv0
    obtain ⟨ye, hye1, hye2⟩ := HSP.out 0 (by omega)
    have HN0 := Lib.hid (show v0 + 0 = num b p 1 by have h := HSP.out 0 (by omega); obtain ⟨z, hz1, hz2⟩ := h; rw [Nat.zero_add] at hz1; rw [hz1]; rw [Nat.pow_zero] at hz2 ⊢; omega)
    have HHI := Lib.hid (show num b p 1 < 0 + 64 by rw [hye1]; simp only [Nat.reducePow] at hye2 ⊢; omega)
    clear hye1 hye2 HSP
    go_enter Tryd.func33, Tryd.ntmps33
    go_wp2
    try rw [show decide ((p : Int) = (n : Int)) = false from decide_eq_false (by omega)]
    try rw [show decide ((192 : Int) ≤ (q : Int)) = false from decide_eq_false (by omega)]
    try rw [show decide ((n : Int) - (p : Int) < 1) = false from decide_eq_false (by omega)]
    go_loopw [8, 9] (fun v i W => ∃ (j V : Nat), i = .int .i64 j ∧ v = .int .i64 V ∧ 1 ≤ j ∧ j ≤ 1 ∧ Hid (V + 0 * 256 ^ (j - 1) = num b p j) ∧ w = W) (fun _ i _ => 1 - (intOf i).toNat)
    case atStart => exact ⟨1, v0, rfl, rfl, by omega, by omega, Lib.hid (by rw [← HN0.out]), rfl⟩
    case round =>
      obtain ⟨j, V, rfl, rfl, hj1, hj, HV, rfl⟩ := hrel
      by_cases hjk : j < 1
      · have HS := Lib.hid (HSUC.out j (by omega))
        have HB256 := Lib.hid (HLTB.out (p + j))
        have cj := HA.out.cell (p + j) (by omega)
        obtain ⟨y, hy⟩ : ∃ y, gt b (p + j) = y := ⟨_, rfl⟩
        rw [hy] at HS HB256 cj
        have HVL := Lib.hid (show V < 16777216 by
          have h1 := num_lt b HLTB.out p j (by rw [HA.out.len]; omega)
          have h2 : 256 ^ j ≤ 256 ^ 3 := Nat.pow_le_pow_right (by omega) (by omega)
          have h3 := HV.out
          omega)
        obtain ⟨V2, hV2⟩ : ∃ V2, V2 = V * 256 + y := ⟨_, rfl⟩
        have HV2 := Lib.hid hV2
        have HNX := Lib.hid (show V2 + 0 * 256 ^ (j + 1 - 1) = num b p (j + 1) by
          rw [hV2, Nat.add_sub_cancel, pow_step 0 j hj1]
          exact step_num HV.out HS.out)
        obtain ⟨d, hd, hd', hdn⟩ : ∃ d : Nat, p + j = d ∧ (p : Int) + (j : Int) = (d : Int) ∧ d < n := ⟨_, rfl, by omega, by omega⟩
        rw [hd] at cj
        have yj : (j : Int) < 1 := by omega
        have hb1 := or_i64 HVL.out HB256.out HV2.out
        have hb2 : wrap64 ((V : Int) * 256) = (V : Int) * 256 := by have := HVL.out; unfold wrap64; omega
        have hb3 : wrap64 (y : Int) = (y : Int) := by have := HB256.out; unfold wrap64; omega
        clear hy hd hV2
        go_wp2
        go_roundw
        case rel => exact ⟨j + 1, V2, by go_num, by first | rfl | rw [hb1] | rw [hb3, hb1], by omega, by omega, HNX, True.intro⟩
        case measure => simp [intOf]; omega
      · obtain rfl : j = 1 := by omega
        have HVE := Lib.hid (show V + 0 = num b p 1 from HV.out)
        have HVB := Lib.hid (show V < 1073741824 by have h1 := HVE.out; have h2 := HHI.out; omega)
        clear hjk hj hj1
        obtain ⟨lb, hlb⟩ : ∃ lb, lenB V = lb := ⟨_, rfl⟩
        have HLB := Lib.hid hlb
        obtain ⟨z, hz⟩ : ∃ z, lb.length = z := ⟨_, rfl⟩
        have HZ := Lib.hid (show z = szB V by rw [← hz, ← hlb, lenB_len])
        clear hlb
        go_wp2_with fail
        refine (rlength_any V w HVB.out lb HLB).mono ?_
        rintro e' w1 ⟨h1, cap1, rfl, hO, hB⟩
        have HB := Lib.hid hB; clear hO hB
        rw [hz]
        clear hz
        have h8 : True := True.intro
        obtain rfl : z = 1 := by have h1 := HZ.out; have h2 := szB_cases V; have h3 := HVE.out; have h4 := HHI.out; omega
        have HL2 := Lib.hid (show lenAt b p = (V, p + 1, 0) by rw [HLA.out, if_neg h6, if_neg (by have := HVE.out; omega), ← HVE.out, Nat.add_sub_cancel])
        by_cases h9 : 1048576 < V
        · have HR := Lib.hid (show r = (0, 0, 2) by rw [← HR0.out]; unfold txAt; rw [HL2.out]; dsimp only; rw [if_neg (by simp), if_pos h9])
          have y9 : (1048576 : Int) < (V : Int) := by omega
          clear h8 h6 h9
          go_wp2
          go_ret3
          exact ⟨by rw [HR.out]; rfl, HB.out⟩
        have y9 : ¬ (1048576 : Int) < (V : Int) := by omega
        by_cases h10 : n < p + 1 + V
        · have HR := Lib.hid (show r = (0, 0, 111) by rw [← HR0.out]; unfold txAt; rw [HL2.out]; dsimp only; rw [if_neg (by simp), if_neg h9, if_pos (by rw [HA.out.len]; exact h10)])
          have y10 : (n : Int) - (p : Int) - 1 < (V : Int) := by omega
          clear h8 h9 h10
          go_wp2
          go_ret3
          exact ⟨by rw [HR.out]; rfl, HB.out⟩
        · obtain ⟨fr, hfr, hfr'⟩ : ∃ fr : Nat, p + 1 = fr ∧ (p : Int) + 1 = (fr : Int) := ⟨_, rfl, by omega⟩
          have HR := Lib.hid (show r = (fr, fr + V, 0) by rw [← HR0.out]; unfold txAt; rw [HL2.out]; dsimp only; rw [if_neg (by simp), if_neg h9, if_neg (by rw [HA.out.len]; exact h10), hfr])
          have y10 : ¬ (n : Int) - (p : Int) - 1 < (V : Int) := by omega
          clear h8 h9 h10 hfr
          go_wp2
          go_ret3
          refine ⟨?_, HB.out⟩
          rw [HR.out]
          show _ = Ending.returned (Value.tuple #[.int .i64 ((fr + V - fr : Nat) : Int), .int .i64 fr, .int .i64 0])
          rw [Nat.add_sub_cancel_left]
          rfl
  · have HLA := Lib.hid (show lenAt b p = if n < p + 2 then (0, 0, 111) else if num b p 2 < 16448 then (0, 0, 112) else (num b p 2 - 16384, p + 2, 0) from HCLS.out 2 (by unfold cls; rw [if_neg (by omega), if_pos (by omega)]))
    have y5 : ¬ (128 : Int) ≤ (q : Int) := by omega
    have y6 : (64 : Int) ≤ (q : Int) := by omega
    clear HCLS
    by_cases h6 : n < p + 2
    · have HR := Lib.hid (show r = (0, 0, 111) by rw [← HR0.out]; exact txAt_err (by rw [HLA.out, if_pos h6]) (by omega))
      have y7 : (n : Int) - (p : Int) < 2 := by omega
      clear h6 h5
      go_enter Tryd.func33, Tryd.ntmps33
      go_wp2
      go_ret3
      exact ⟨by rw [HR.out]; rfl, Below.refl _ _⟩
    have y7 : ¬ (n : Int) - (p : Int) < 2 := by omega
    obtain ⟨v0, hv0, hv0', hv64⟩ : ∃ v0 : Nat, (q : Int) % 64 = (v0 : Int) ∧ v0 + 64 = q ∧ v0 < 64 := ⟨q - 64, by omega, by omega, by omega⟩
    have hv0t : (q : Int).tmod 64 = (v0 : Int) := by rw [Int.tmod_eq_emod_of_nonneg (by omega)]; exact hv0
    obtain ⟨ye, hye1, hye2⟩ := HSP.out 1 (by omega)
    have HN0 := Lib.hid (show v0 + 64 = num b p 1 by have h := HSP.out 0 (by omega); obtain ⟨z, hz1, hz2⟩ := h; rw [Nat.zero_add] at hz1; rw [hz1]; rw [Nat.pow_zero] at hz2 ⊢; omega)
    have HHI := Lib.hid (show num b p 2 < 16384 + 16384 by rw [hye1]; simp only [Nat.reducePow] at hye2 ⊢; omega)
    clear hye1 hye2 HSP
    go_enter Tryd.func33, Tryd.ntmps33
    go_wp2
    try rw [show decide ((p : Int) = (n : Int)) = false from decide_eq_false (by omega)]
    try rw [show decide ((192 : Int) ≤ (q : Int)) = false from decide_eq_false (by omega)]
    try rw [show decide ((n : Int) - (p : Int) < 2) = false from decide_eq_false (by omega)]
    go_loopw [8, 9] (fun v i W => ∃ (j V : Nat), i = .int .i64 j ∧ v = .int .i64 V ∧ 1 ≤ j ∧ j ≤ 2 ∧ Hid (V + 64 * 256 ^ (j - 1) = num b p j) ∧ w = W) (fun _ i _ => 2 - (intOf i).toNat)
    case atStart => exact ⟨1, v0, rfl, rfl, by omega, by omega, Lib.hid (by rw [← HN0.out]), rfl⟩
    case round =>
      obtain ⟨j, V, rfl, rfl, hj1, hj, HV, rfl⟩ := hrel
      by_cases hjk : j < 2
      · have HS := Lib.hid (HSUC.out j (by omega))
        have HB256 := Lib.hid (HLTB.out (p + j))
        have cj := HA.out.cell (p + j) (by omega)
        obtain ⟨y, hy⟩ : ∃ y, gt b (p + j) = y := ⟨_, rfl⟩
        rw [hy] at HS HB256 cj
        have HVL := Lib.hid (show V < 16777216 by
          have h1 := num_lt b HLTB.out p j (by rw [HA.out.len]; omega)
          have h2 : 256 ^ j ≤ 256 ^ 3 := Nat.pow_le_pow_right (by omega) (by omega)
          have h3 := HV.out
          omega)
        obtain ⟨V2, hV2⟩ : ∃ V2, V2 = V * 256 + y := ⟨_, rfl⟩
        have HV2 := Lib.hid hV2
        have HNX := Lib.hid (show V2 + 64 * 256 ^ (j + 1 - 1) = num b p (j + 1) by
          rw [hV2, Nat.add_sub_cancel, pow_step 64 j hj1]
          exact step_num HV.out HS.out)
        obtain ⟨d, hd, hd', hdn⟩ : ∃ d : Nat, p + j = d ∧ (p : Int) + (j : Int) = (d : Int) ∧ d < n := ⟨_, rfl, by omega, by omega⟩
        rw [hd] at cj
        have yj : (j : Int) < 2 := by omega
        have hb1 := or_i64 HVL.out HB256.out HV2.out
        have hb2 : wrap64 ((V : Int) * 256) = (V : Int) * 256 := by have := HVL.out; unfold wrap64; omega
        have hb3 : wrap64 (y : Int) = (y : Int) := by have := HB256.out; unfold wrap64; omega
        clear hy hd hV2
        go_wp2
        go_roundw
        case rel => exact ⟨j + 1, V2, by go_num, by first | rfl | rw [hb1] | rw [hb3, hb1], by omega, by omega, HNX, True.intro⟩
        case measure => simp [intOf]; omega
      · obtain rfl : j = 2 := by omega
        have HVE := Lib.hid (show V + 16384 = num b p 2 from HV.out)
        have HVB := Lib.hid (show V < 1073741824 by have h1 := HVE.out; have h2 := HHI.out; omega)
        clear hjk hj hj1
        obtain ⟨lb, hlb⟩ : ∃ lb, lenB V = lb := ⟨_, rfl⟩
        have HLB := Lib.hid hlb
        obtain ⟨z, hz⟩ : ∃ z, lb.length = z := ⟨_, rfl⟩
        have HZ := Lib.hid (show z = szB V by rw [← hz, ← hlb, lenB_len])
        clear hlb
        go_wp2_with fail
        refine (rlength_any V w HVB.out lb HLB).mono ?_
        rintro e' w1 ⟨h1, cap1, rfl, hO, hB⟩
        have HB := Lib.hid hB; clear hO hB
        rw [hz]
        clear hz
        by_cases h8 : V < 64
        · have HR := Lib.hid (show r = (0, 0, 112) by rw [← HR0.out]; exact txAt_err (by rw [HLA.out, if_neg h6, if_pos (by have := HVE.out; omega)]) (by omega))
          have y8 : ¬ (z : Int) = 2 := by have h1 := HZ.out; have h2 := szB_cases V; omega
          clear h8 h6
          go_wp2
          go_ret3
          exact ⟨by rw [HR.out]; rfl, HB.out⟩
        obtain rfl : z = 2 := by have h1 := HZ.out; have h2 := szB_cases V; have h3 := HVE.out; have h4 := HHI.out; omega
        have HL2 := Lib.hid (show lenAt b p = (V, p + 2, 0) by rw [HLA.out, if_neg h6, if_neg (by have := HVE.out; omega), ← HVE.out, Nat.add_sub_cancel])
        by_cases h9 : 1048576 < V
        · have HR := Lib.hid (show r = (0, 0, 2) by rw [← HR0.out]; unfold txAt; rw [HL2.out]; dsimp only; rw [if_neg (by simp), if_pos h9])
          have y9 : (1048576 : Int) < (V : Int) := by omega
          clear h8 h6 h9
          go_wp2
          go_ret3
          exact ⟨by rw [HR.out]; rfl, HB.out⟩
        have y9 : ¬ (1048576 : Int) < (V : Int) := by omega
        by_cases h10 : n < p + 2 + V
        · have HR := Lib.hid (show r = (0, 0, 111) by rw [← HR0.out]; unfold txAt; rw [HL2.out]; dsimp only; rw [if_neg (by simp), if_neg h9, if_pos (by rw [HA.out.len]; exact h10)])
          have y10 : (n : Int) - (p : Int) - 2 < (V : Int) := by omega
          clear h8 h9 h10
          go_wp2
          go_ret3
          exact ⟨by rw [HR.out]; rfl, HB.out⟩
        · obtain ⟨fr, hfr, hfr'⟩ : ∃ fr : Nat, p + 2 = fr ∧ (p : Int) + 2 = (fr : Int) := ⟨_, rfl, by omega⟩
          have HR := Lib.hid (show r = (fr, fr + V, 0) by rw [← HR0.out]; unfold txAt; rw [HL2.out]; dsimp only; rw [if_neg (by simp), if_neg h9, if_neg (by rw [HA.out.len]; exact h10), hfr])
          have y10 : ¬ (n : Int) - (p : Int) - 2 < (V : Int) := by omega
          clear h8 h9 h10 hfr
          go_wp2
          go_ret3
          refine ⟨?_, HB.out⟩
          rw [HR.out]
          show _ = Ending.returned (Value.tuple #[.int .i64 ((fr + V - fr : Nat) : Int), .int .i64 fr, .int .i64 0])
          rw [Nat.add_sub_cancel_left]
          rfl
  · have HLA := Lib.hid (show lenAt b p = if n < p + 4 then (0, 0, 111) else if num b p 4 < 2147500032 then (0, 0, 112) else (num b p 4 - 2147483648, p + 4, 0) from HCLS.out 4 (by unfold cls; rw [if_neg (by omega), if_neg (by omega)]))
    have y5 : (128 : Int) ≤ (q : Int) := by omega
    clear HCLS
    by_cases h6 : n < p + 4
    · have HR := Lib.hid (show r = (0, 0, 111) by rw [← HR0.out]; exact txAt_err (by rw [HLA.out, if_pos h6]) (by omega))
      have y7 : (n : Int) - (p : Int) < 4 := by omega
      clear h6 h5
      go_enter Tryd.func33, Tryd.ntmps33
      go_wp2
      go_ret3
      exact ⟨by rw [HR.out]; rfl, Below.refl _ _⟩
    have y7 : ¬ (n : Int) - (p : Int) < 4 := by omega
    obtain ⟨v0, hv0, hv0', hv64⟩ : ∃ v0 : Nat, (q : Int) % 64 = (v0 : Int) ∧ v0 + 128 = q ∧ v0 < 64 := ⟨q - 128, by omega, by omega, by omega⟩
    have hv0t : (q : Int).tmod 64 = (v0 : Int) := by rw [Int.tmod_eq_emod_of_nonneg (by omega)]; exact hv0
    obtain ⟨ye, hye1, hye2⟩ := HSP.out 3 (by omega)
    have HN0 := Lib.hid (show v0 + 128 = num b p 1 by have h := HSP.out 0 (by omega); obtain ⟨z, hz1, hz2⟩ := h; rw [Nat.zero_add] at hz1; rw [hz1]; rw [Nat.pow_zero] at hz2 ⊢; omega)
    have HHI := Lib.hid (show num b p 4 < 2147483648 + 1073741824 by rw [hye1]; simp only [Nat.reducePow] at hye2 ⊢; omega)
    clear hye1 hye2 HSP
    go_enter Tryd.func33, Tryd.ntmps33
    go_wp2
    try rw [show decide ((p : Int) = (n : Int)) = false from decide_eq_false (by omega)]
    try rw [show decide ((192 : Int) ≤ (q : Int)) = false from decide_eq_false (by omega)]
    try rw [show decide ((n : Int) - (p : Int) < 4) = false from decide_eq_false (by omega)]
    go_loopw [8, 9] (fun v i W => ∃ (j V : Nat), i = .int .i64 j ∧ v = .int .i64 V ∧ 1 ≤ j ∧ j ≤ 4 ∧ Hid (V + 128 * 256 ^ (j - 1) = num b p j) ∧ w = W) (fun _ i _ => 4 - (intOf i).toNat)
    case atStart => exact ⟨1, v0, rfl, rfl, by omega, by omega, Lib.hid (by rw [← HN0.out]), rfl⟩
    case round =>
      obtain ⟨j, V, rfl, rfl, hj1, hj, HV, rfl⟩ := hrel
      by_cases hjk : j < 4
      · have HS := Lib.hid (HSUC.out j (by omega))
        have HB256 := Lib.hid (HLTB.out (p + j))
        have cj := HA.out.cell (p + j) (by omega)
        obtain ⟨y, hy⟩ : ∃ y, gt b (p + j) = y := ⟨_, rfl⟩
        rw [hy] at HS HB256 cj
        have HVL := Lib.hid (show V < 16777216 by
          have h1 := num_lt b HLTB.out p j (by rw [HA.out.len]; omega)
          have h2 : 256 ^ j ≤ 256 ^ 3 := Nat.pow_le_pow_right (by omega) (by omega)
          have h3 := HV.out
          omega)
        obtain ⟨V2, hV2⟩ : ∃ V2, V2 = V * 256 + y := ⟨_, rfl⟩
        have HV2 := Lib.hid hV2
        have HNX := Lib.hid (show V2 + 128 * 256 ^ (j + 1 - 1) = num b p (j + 1) by
          rw [hV2, Nat.add_sub_cancel, pow_step 128 j hj1]
          exact step_num HV.out HS.out)
        obtain ⟨d, hd, hd', hdn⟩ : ∃ d : Nat, p + j = d ∧ (p : Int) + (j : Int) = (d : Int) ∧ d < n := ⟨_, rfl, by omega, by omega⟩
        rw [hd] at cj
        have yj : (j : Int) < 4 := by omega
        have hb1 := or_i64 HVL.out HB256.out HV2.out
        have hb2 : wrap64 ((V : Int) * 256) = (V : Int) * 256 := by have := HVL.out; unfold wrap64; omega
        have hb3 : wrap64 (y : Int) = (y : Int) := by have := HB256.out; unfold wrap64; omega
        clear hy hd hV2
        go_wp2
        go_roundw
        case rel => exact ⟨j + 1, V2, by go_num, by first | rfl | rw [hb1] | rw [hb3, hb1], by omega, by omega, HNX, True.intro⟩
        case measure => simp [intOf]; omega
      · obtain rfl : j = 4 := by omega
        have HVE := Lib.hid (show V + 2147483648 = num b p 4 from HV.out)
        have HVB := Lib.hid (show V < 1073741824 by have h1 := HVE.out; have h2 := HHI.out; omega)
        clear hjk hj hj1
        obtain ⟨lb, hlb⟩ : ∃ lb, lenB V = lb := ⟨_, rfl⟩
        have HLB := Lib.hid hlb
        obtain ⟨z, hz⟩ : ∃ z, lb.length = z := ⟨_, rfl⟩
        have HZ := Lib.hid (show z = szB V by rw [← hz, ← hlb, lenB_len])
        clear hlb
        go_wp2_with fail
        refine (rlength_any V w HVB.out lb HLB).mono ?_
        rintro e' w1 ⟨h1, cap1, rfl, hO, hB⟩
        have HB := Lib.hid hB; clear hO hB
        rw [hz]
        clear hz
        by_cases h8 : V < 16384
        · have HR := Lib.hid (show r = (0, 0, 112) by rw [← HR0.out]; exact txAt_err (by rw [HLA.out, if_neg h6, if_pos (by have := HVE.out; omega)]) (by omega))
          have y8 : ¬ (z : Int) = 4 := by have h1 := HZ.out; have h2 := szB_cases V; omega
          clear h8 h6
          go_wp2
          go_ret3
          exact ⟨by rw [HR.out]; rfl, HB.out⟩
        obtain rfl : z = 4 := by have h1 := HZ.out; have h2 := szB_cases V; have h3 := HVE.out; have h4 := HHI.out; omega
        have HL2 := Lib.hid (show lenAt b p = (V, p + 4, 0) by rw [HLA.out, if_neg h6, if_neg (by have := HVE.out; omega), ← HVE.out, Nat.add_sub_cancel])
        by_cases h9 : 1048576 < V
        · have HR := Lib.hid (show r = (0, 0, 2) by rw [← HR0.out]; unfold txAt; rw [HL2.out]; dsimp only; rw [if_neg (by simp), if_pos h9])
          have y9 : (1048576 : Int) < (V : Int) := by omega
          clear h8 h6 h9
          go_wp2
          go_ret3
          exact ⟨by rw [HR.out]; rfl, HB.out⟩
        have y9 : ¬ (1048576 : Int) < (V : Int) := by omega
        by_cases h10 : n < p + 4 + V
        · have HR := Lib.hid (show r = (0, 0, 111) by rw [← HR0.out]; unfold txAt; rw [HL2.out]; dsimp only; rw [if_neg (by simp), if_neg h9, if_pos (by rw [HA.out.len]; exact h10)])
          have y10 : (n : Int) - (p : Int) - 4 < (V : Int) := by omega
          clear h8 h9 h10
          go_wp2
          go_ret3
          exact ⟨by rw [HR.out]; rfl, HB.out⟩
        · obtain ⟨fr, hfr, hfr'⟩ : ∃ fr : Nat, p + 4 = fr ∧ (p : Int) + 4 = (fr : Int) := ⟨_, rfl, by omega⟩
          have HR := Lib.hid (show r = (fr, fr + V, 0) by rw [← HR0.out]; unfold txAt; rw [HL2.out]; dsimp only; rw [if_neg (by simp), if_neg h9, if_neg (by rw [HA.out.len]; exact h10), hfr])
          have y10 : ¬ (n : Int) - (p : Int) - 4 < (V : Int) := by omega
          clear h8 h9 h10 hfr
          go_wp2
          go_ret3
          refine ⟨?_, HB.out⟩
          rw [HR.out]
          show _ = Ending.returned (Value.tuple #[.int .i64 ((fr + V - fr : Nat) : Int), .int .i64 fr, .int .i64 0])
          rw [Nat.add_sub_cancel_left]
          rfl

set_option maxHeartbeats 2000000 in
set_option maxRecDepth 100000 in
theorem rgetText_any (A : Option Addr) (b : List Nat) (n c : Nat) (x : Int) (w : World) (hA : Txt Any w A n c b) (hn : n ≤ 8388608) (r : List Nat × Nat × Nat) (hr : Hid (getT b x = r)) :
    Calls Tryd.prog 21 #[.slice A n c, .int .i64 x] w (GotT r w) := by
  have HOK := Lib.hid (fun h : (txI b x).2.2 = 0 => txI_ok hA.lt h)
  have HZ := Lib.hid (fun h : (txI b x).2.2 ≠ 0 => txI_zero_of h)
  have HG := Lib.hid (show getT b x = if (txI b x).2.2 ≠ 0 then ([], 0, (txI b x).2.2) else (cut b (txI b x).1 (txI b x).2.1, (txI b x).2.1, 0) from rfl)
  obtain ⟨⟨fr, to, er⟩, hL⟩ : ∃ t, txI b x = t := ⟨_, rfl⟩
  rw [hL] at HOK HG HZ
  have HL := Lib.hid hL
  have HA := Lib.hid hA
  clear hL hA
  go_enter Tryd.func21, Tryd.ntmps21
  go_wp2_with fail
  refine (rgetLength_any A b n c x w HA.out hn (fr, to, er) HL).mono ?_
  rintro e' w1 ⟨rfl, hB⟩
  have HB := Lib.hid hB; clear hB
  by_cases he : er = 0
  · subst he
    obtain ⟨k1, k2, k3⟩ := HOK.out rfl
    replace k1 : 0 < fr := k1
    replace k2 : fr ≤ to := k2
    replace k3 : to ≤ b.length := k3
    rw [HA.out.len] at k3
    obtain ⟨ad, rfl⟩ := HA.out.some (by omega)
    obtain ⟨ad', hsl, hX⟩ := cut_any HA.out fr to k2 k3
    have HR := Lib.hid (show r = (cut b fr to, to, 0) by rw [← hr.out, HG.out, if_neg (by simp)])
    have HNIL := Lib.hid (nil_own w1 (base := w1.heap.size) (Nat.le_refl _))
    have HC1 := Lib.hid ((Below.refl w1.heap.size w1).alloc (Nat.le_refl _) (.cells #[] 5))
    have HX := Lib.hid ((hX.below HB.out).below HC1.out); clear hX
    obtain ⟨m, hm, hm'⟩ : ∃ m : Nat, to - fr = m ∧ (fr : Int) + (m : Int) = (to : Int) := ⟨_, rfl, by omega⟩
    rw [hm] at hsl HX
    try rw [hm]
    try simp only []
    try rw [hm]
    have hm9 : m ≤ 8388608 := by omega
    clear hm
    go_wp2_with (at_builtin; refine wpList_append_txt rfl (.tmp 20) (.tmp 26) rfl w1.heap.size 0 m (c - fr) _ [] (cut b fr to) (some ad') Any rfl rfl HNIL.out HX.out (by omega) HC1.out.size ?_)
    intro v' W2 hown hgrow hat
    obtain ⟨C', c', rfl⟩ := own_slice_of hown
    try rw [Nat.zero_add, List.nil_append] at hown
    have HC2 := Lib.hid (below_own HC1.out HNIL.out (Nat.le_refl _) hgrow)
    have HB2 := Lib.hid (HB.out.trans (HC2.out.mono HB.out.size))
    obtain ⟨A', c'', e, hX2⟩ := Txt.of_own hown HX.out.lt
    injection e with e1 _ e3
    subst e1 e3
    have HX2 := Lib.hid (hX2.mono (New.mono HB.out.size)); clear hX2 hown hgrow hat
    go_wp2
    go_ret3
    refine ⟨_, _, _, ?_, by rw [HR.out]; exact HX2.out, HB2.out⟩
    rw [HR.out]; rfl
  · have HR := Lib.hid (show r = ([], 0, er) by rw [← hr.out, HG.out, if_pos he])
    obtain ⟨z1, z2⟩ := HZ.out he
    replace z1 : fr = 0 := z1
    replace z2 : to = 0 := z2
    subst z1 z2
    have y2 : ¬ (er : Int) = 0 := by omega
    go_wp2
    go_ret3
    refine ⟨_, _, _, ?_, by rw [HR.out]; exact Txt.nil _ _, HB.out⟩
    rw [HR.out]; rfl
end Go.Proofs.YthjoafldndgahaaDoor.Wr
