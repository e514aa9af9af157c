/- Plain mathematics: the document's own SHA-256 says the same: a block's words, the blocks one behind the other, the end. The document's own: turned, constants. The document's own: block. The document's own: Sum. -/
import Derived.Test.YtkplkfokpniflaaDoorShaM1
import Derived.Test.YtkplkfokpniflaaDoorShaM2
namespace Go.Proofs.YtkplkfokpniflaaDoor.Sha
set_option linter.all false

theorem or_add (a b i : Nat) (hb : b < 2 ^ i) : a * 2 ^ i ||| b = a * 2 ^ i + b := by
  rw [Nat.mul_comm, ← Nat.two_pow_add_eq_or_of_lt hb]
/-- as many bytes of word i as there are -/
def part (b : List Nat) (i : Nat) : Nat → Nat
  | 0 => 0
  | m + 1 => part b i m * 256 + gt b (4 * i + m)
theorem part_lt {b : List Nat} (hb : ∀ j, gt b j < 256) (i : Nat) : ∀ m, part b i m < 256 ^ m
  | 0 => by show 0 < 1; omega
  | m + 1 => by
    have h1 := part_lt hb i m
    have h2 := hb (4 * i + m)
    show part b i m * 256 + gt b (4 * i + m) < 256 ^ (m + 1)
    rw [Nat.pow_succ]; omega
theorem gt_packTo {b : List Nat} (h : Ok 256 64 b) : ∀ n, n ≤ 64 → ∀ i, i < 64 → gt (packTo b n) i = part b i (min (n - 4 * i) 4)
  | 0, _, i, hi => by
    show gt (tab 64 fun _ => 0) i = _
    rw [gt_tab _ _ _ hi, show min (0 - 4 * i) 4 = 0 by omega]; rfl
  | n + 1, hn, i, hi => by
    have ih := gt_packTo h n (by omega)
    show gt ((packTo b n).set (n / 4) (packw (packTo b n) n (gt b n))) i = _
    rw [gt_set _ _ _ _ (by rw [(ok_packTo h n (by omega)).1]; omega)]
    by_cases e : i = n / 4
    · rw [if_pos e]
      unfold packw
      rw [← e, ih i hi]
      have hm : min (n - 4 * i) 4 = n - 4 * i := by omega
      have hm2 : min (n + 1 - 4 * i) 4 = (n - 4 * i) + 1 := by omega
      rw [hm, hm2]
      have hp := part_lt h.2 i (n - 4 * i)
      have hle : 256 ^ (n - 4 * i) ≤ 256 ^ 3 := Nat.pow_le_pow_right (by omega) (by omega)
      have hc : (256 : Nat) ^ 3 = 16777216 := rfl
      rw [hc] at hle
      rw [Nat.mod_eq_of_lt (show part b i (n - 4 * i) * 256 < 4294967296 by omega)]
      have := or_add (part b i (n - 4 * i)) (gt b n) 8 (h.2 n)
      have h8 : (2 : Nat) ^ 8 = 256 := rfl
      rw [h8] at this
      rw [this]
      show _ = part b i (n - 4 * i) * 256 + gt b (4 * i + (n - 4 * i))
      rw [show 4 * i + (n - 4 * i) = n by omega]
    · rw [if_neg e, ih i hi]
      congr 1
      omega
/-- the document's word -/
def wordOf (b : List Nat) (i : Nat) : Nat := ((gt b (4 * i) * 16777216 % 4294967296 ||| gt b (4 * i + 1) * 65536 % 4294967296) ||| gt b (4 * i + 2) * 256 % 4294967296) ||| gt b (4 * i + 3)
theorem wordOf_eq {b : List Nat} (hb : ∀ j, gt b j < 256) (i : Nat) : wordOf b i = part b i 4 := by
  have h0 := hb (4 * i); have h1 := hb (4 * i + 1); have h2 := hb (4 * i + 2); have h3 := hb (4 * i + 3)
  unfold wordOf
  rw [Nat.mod_eq_of_lt (show gt b (4 * i) * 16777216 < 4294967296 by omega), Nat.mod_eq_of_lt (show gt b (4 * i + 1) * 65536 < 4294967296 by omega), Nat.mod_eq_of_lt (show gt b (4 * i + 2) * 256 < 4294967296 by omega)]
  have e1 : gt b (4 * i) * 16777216 ||| gt b (4 * i + 1) * 65536 = gt b (4 * i) * 16777216 + gt b (4 * i + 1) * 65536 := or_add (gt b (4 * i)) (gt b (4 * i + 1) * 65536) 24 (by show _ < 16777216; omega)
  have e2 : (gt b (4 * i) * 16777216 + gt b (4 * i + 1) * 65536) ||| gt b (4 * i + 2) * 256 = gt b (4 * i) * 16777216 + gt b (4 * i + 1) * 65536 + gt b (4 * i + 2) * 256 := by
    have := or_add (gt b (4 * i) * 256 + gt b (4 * i + 1)) (gt b (4 * i + 2) * 256) 16 (by show _ < 65536; omega)
    have h : (2 : Nat) ^ 16 = 65536 := rfl
    rw [h] at this
    rw [show gt b (4 * i) * 16777216 + gt b (4 * i + 1) * 65536 = (gt b (4 * i) * 256 + gt b (4 * i + 1)) * 65536 by omega]
    exact this
  have e3 : (gt b (4 * i) * 16777216 + gt b (4 * i + 1) * 65536 + gt b (4 * i + 2) * 256) ||| gt b (4 * i + 3) = gt b (4 * i) * 16777216 + gt b (4 * i + 1) * 65536 + gt b (4 * i + 2) * 256 + gt b (4 * i + 3) := by
    have := or_add (gt b (4 * i) * 65536 + gt b (4 * i + 1) * 256 + gt b (4 * i + 2)) (gt b (4 * i + 3)) 8 h3
    have h : (2 : Nat) ^ 8 = 256 := rfl
    rw [h] at this
    rw [show gt b (4 * i) * 16777216 + gt b (4 * i + 1) * 65536 + gt b (4 * i + 2) * 256 = (gt b (4 * i) * 65536 + gt b (4 * i + 1) * 256 + gt b (4 * i + 2)) * 256 by omega]
    exact this
  rw [e1, e2, e3]
  simp only [part, Nat.add_zero, Nat.zero_mul, Nat.zero_add]
  omega
theorem wordOf_lt {b : List Nat} (hb : ∀ j, gt b j < 256) (i : Nat) : wordOf b i < 4294967296 := by
  rw [wordOf_eq hb]; exact part_lt hb i 4
/-- the first k words, and noughts -/
def firstTo (b : List Nat) (k : Nat) : List Nat := tab 64 fun i => if i < k then wordOf b i else 0
theorem ok_firstTo {b : List Nat} (hb : ∀ j, gt b j < 256) (k : Nat) : Ok 4294967296 64 (firstTo b k) := by
  refine ok_tab (by omega) _ fun i _ => ?_
  split
  · exact wordOf_lt hb i
  · omega
theorem firstTo_zero (b : List Nat) : firstTo b 0 = tab 64 fun _ => 0 := by
  refine ext_gt (tab_len _ _) (tab_len _ _) fun i hi => ?_
  unfold firstTo; rw [gt_tab _ _ _ hi, gt_tab _ _ _ hi, if_neg (by omega)]
theorem firstTo_succ (b : List Nat) (k : Nat) (hk : k < 64) : (firstTo b k).set k (wordOf b k) = firstTo b (k + 1) := by
  refine ext_gt (by simp [firstTo, tab]) (tab_len _ _) fun i hi => ?_
  rw [gt_set _ _ _ _ (by rw [firstTo, tab_len]; exact hk)]
  unfold firstTo
  rw [gt_tab _ _ _ hi, gt_tab _ _ _ hi]
  by_cases e : i = k
  · subst e; simp
  · rw [if_neg e]
    by_cases h : i < k
    · rw [if_pos h, if_pos (by omega)]
    · rw [if_neg h, if_neg (by omega)]
theorem firstTo_all {b : List Nat} (h : Ok 256 64 b) : firstTo b 16 = packTo b 64 := by
  refine ext_gt (tab_len _ _) (ok_packTo h 64 (Nat.le_refl _)).1 fun i hi => ?_
  rw [gt_packTo h 64 (Nat.le_refl _) i hi]
  unfold firstTo
  rw [gt_tab _ _ _ hi]
  by_cases h16 : i < 16
  · rw [if_pos h16, wordOf_eq h.2, show min (64 - 4 * i) 4 = 4 by omega]
  · rw [if_neg h16, show min (64 - 4 * i) 4 = 0 by omega]; rfl

/-- blocks of all, one behind the other -/
def blockAt (all : List Nat) (k : Nat) : List Nat := (all.drop (64 * k)).take 64
def blocksTo (all : List Nat) : Nat → List Nat
  | 0 => firstT
  | k + 1 => change (blocksTo all k) (blockAt all k)
theorem ok_blocksTo (all : List Nat) : ∀ k, Ok 4294967296 8 (blocksTo all k)
  | 0 => ok_first
  | k + 1 => ok_change (ok_blocksTo all k)
theorem gt_drop (l : List Nat) (k j : Nat) : gt (l.drop k) j = gt l (k + j) := by
  unfold gt; rw [List.getD_eq_getElem?_getD, List.getD_eq_getElem?_getD, List.getElem?_drop]
theorem gt_take' (l : List Nat) (k i : Nat) (h : i < k) : gt (l.take k) i = gt l i := by
  unfold gt; rw [List.getD_eq_getElem?_getD, List.getD_eq_getElem?_getD, List.getElem?_take_of_lt h]
theorem blockAt_ok {all : List Nat} (h : ∀ j, gt all j < 256) (k : Nat) (hk : 64 * k + 64 ≤ all.length) : Ok 256 64 (blockAt all k) := by
  refine ⟨by unfold blockAt; rw [List.length_take, List.length_drop]; omega, fun i => ?_⟩
  unfold blockAt
  by_cases hi : i < 64
  · rw [gt_take' _ _ _ hi, gt_drop]; exact h _
  · rw [gt_ge _ _ (by rw [List.length_take]; omega)]; omega
theorem over_all (b l : List Nat) (h : l.length = 64) : over b 0 l = l := by
  refine ext_gt (tab_len _ _) h fun i hi => ?_
  unfold over
  rw [gt_tab _ _ _ hi, if_pos (by omega)]; rfl
theorem takeAll_blocks (all : List Nat) : ∀ k, 64 * k ≤ all.length → ∃ buf, buf.length = 64 ∧ takeAll start (all.take (64 * k)) = ⟨blocksTo all k, buf, 64 * k⟩
  | 0, _ => ⟨tab 64 fun _ => 0, tab_len _ _, rfl⟩
  | k + 1, h => by
    obtain ⟨buf, hb, ih⟩ := takeAll_blocks all k (by omega)
    have hl : (blockAt all k).length = 64 := by unfold blockAt; rw [List.length_take, List.length_drop]; omega
    have e : all.take (64 * (k + 1)) = all.take (64 * k) ++ blockAt all k := by
      unfold blockAt
      rw [show 64 * (k + 1) = 64 * k + 64 by omega, List.take_add]
    refine ⟨blockAt all k, hl, ?_⟩
    rw [e, takeAll_append, ih, take_fit (blockAt all k) ⟨blocksTo all k, buf, 64 * k⟩ hb (by intro h0; rw [h0] at hl; simp at hl) (by rw [hl]; dsimp only; omega)]
    have hm : (64 * k) % 64 = 0 := by omega
    dsimp only
    rw [hm, hl, if_pos (by omega), over_all _ _ hl]
    rfl
def whole (l : List Nat) : List Nat := l ++ endL l.length
theorem whole_len (l : List Nat) : (whole l).length = l.length + endLen l.length := by unfold whole; rw [List.length_append, endL_len]
theorem whole_mod (l : List Nat) : (whole l).length % 64 = 0 := by rw [whole_len]; unfold endLen; omega
theorem sum_blocks (l : List Nat) (k : Nat) (h : (whole l).length = 64 * k) : told (blocksTo (whole l) k) = sum l := by
  obtain ⟨buf, _, e⟩ := takeAll_blocks (whole l) k (by omega)
  rw [List.take_of_length_le (by omega)] at e
  unfold sum sumOf
  have hn : (takeAll start l).n = l.length := by rw [takeAll_n]; show 0 + l.length = _; omega
  rw [hn, ← takeAll_append]
  show _ = told (takeAll start (whole l)).st
  rw [e]
/-- the end, one byte at a time -/
theorem endL_take_succ (n j : Nat) (hj : j < endLen n) : (endL n).take (j + 1) = (endL n).take j ++ [endAt n 8 j] := by
  have hl := endL_len n
  rw [List.take_succ_eq_append_getElem (by omega)]
  congr 2
  have := gt_tab (endLen n) (endAt n 8) j hj
  unfold gt at this
  rw [List.getD_eq_getElem?_getD] at this
  rw [← this]
  unfold endL at *
  rw [List.getElem?_eq_getElem (by rw [hl]; exact hj)]; rfl
theorem endAt_first (n : Nat) : endAt n 8 0 = 128 := by
  have := endLen_ge n
  unfold endAt; rw [if_neg (by omega), if_pos rfl]
theorem endAt_nought (n j : Nat) (h0 : 0 < j) (h : j + 8 < endLen n) : endAt n 8 j = 0 := by
  unfold endAt; rw [if_neg (by omega), if_neg (by omega)]
theorem endAt_count (n j m : Nat) (h : j + 8 = endLen n + m) (hm : m < 8) : endAt n 8 j = n * 8 / 2 ^ (8 * (7 - m)) % 256 := by
  unfold endAt; rw [if_pos (by omega), show endLen n - 1 - j = 7 - m by omega]

end Go.Proofs.YtkplkfokpniflaaDoor.Sha

namespace Go.Proofs.YtkplkfokpniflaaDoor.Sha
set_option linter.all false
open Go.RowKit

theorem rrot_bits (x k j : Nat) (hx : x < 4294967296) (hj : j + k = 32) : bits .or .u32 ((x : Int) / 2 ^ k) ((x : Int) * 2 ^ j % 4294967296) = ((rotr x k : Nat) : Int) := by
  rw [← IntKind.wrap_u32, wrapmul]
  have h : ((x : Int) / 2 ^ k) = ((x / 2 ^ k : Nat) : Int) := by simp
  rw [h, u32_or_nat _ _ (Nat.lt_of_le_of_lt (Nat.div_le_self _ _) hx) (Nat.mod_lt _ (by omega)), Nat.or_comm, show j = 32 - k by omega]
  rfl

set_option maxHeartbeats 400000 in
theorem rturned_any (x k : Nat) (w : World) (hx : x < 4294967296) (hk : 1 ≤ k) (hk' : k ≤ 31) :
    Calls Tryd.prog 72 #[.int .u32 x, .int .i64 k] w fun e w' => e = .returned (.int .u32 (rotr x k : Nat)) ∧ ∃ n, w' = w.drewN n := by
  obtain ⟨j, hj, hj'⟩ : ∃ j : Nat, j + k ≤ 32 ∧ 32 ≤ j + k := ⟨32 - k, by omega, by omega⟩
  have hb := rrot_bits x k j hx (by omega)
  have hb2 : bits .or .u32 ((x : Int) / 2 ^ k) (IntKind.u32.wrap ((x : Int) * 2 ^ j)) = ((rotr x k : Nat) : Int) := by rw [IntKind.wrap_u32]; exact hb
  have x1 : IntKind.i64.wrap (32 - (k : Int)) = (j : Int) := by rw [IntKind.wrap_i64]; omega
  have x2 : (32 : Int) - (k : Int) = (j : Int) := by omega
  have y1 : min k 32 = k := by omega
  have y2 : min j 32 = j := by omega
  have y3 : ¬ (k : Int) < 0 := by omega
  have y4 : ¬ (j : Int) < 0 := by omega
  go_enter Tryd.func72, Tryd.ntmps72
  go_wp2
  go_quiet (fail)
  go_wp2
  go_ret
  exact ⟨rfl, _, rfl⟩

def z64 : List Nat := tab 64 fun _ => 0
theorem z64_len : z64.length = 64 := tab_len _ _
set_option maxHeartbeats 1000000 in
set_option maxRecDepth 100000 in
theorem rconsts_any (w : World) : Calls Tryd.prog 71 #[] w fun e w' => e = .returned (.agg (numsOf .u32 consT)) ∧ Below w.heap.size w w' := by
  have hi : (Tryd.prog.info? 96).map (·.size) = some (numsOf .u32 consT).size := by kernel_rfl
  have HI := Lib.hid hi; clear hi
  have HZM := Lib.hid (show (numsOf .u32 z64).size = (numsOf .u32 consT).size by rw [numsOf_size, numsOf_size, z64_len]; rfl)
  go_enter Tryd.func71, Tryd.ntmps71
  go_wp2_with (refine wpList_store_row rfl 96 (.tmp 0) (.tmp 1) rfl w.heap.size (numsOf .u32 consT) rfl rfl 96 (numsOf .u32 z64) (heap_alloc_last w _) HI.out HZM.out (numsOf_one _ _) ?_)
  refine bodyPost_ret (v := .agg (numsOf .u32 consT)) (results_cell_row (p := 0) (ty := 96) (by kernel_rfl) _ _ w.heap.size 96 (numsOf .u32 consT) (0, 0) _ rfl (setRow_heap _ _ _ _ _ _ (heap_alloc_last w _)) Tryd.underlying96 rfl HI.out) rfl ⟨rfl, below_setRow ((Below.refl _ _).alloc (Nat.le_refl _) _) (Nat.le_refl _) _⟩

end Go.Proofs.YtkplkfokpniflaaDoor.Sha

namespace Go.Proofs.YtkplkfokpniflaaDoor.Sha
set_option linter.all false
open Go.RowKit
attribute [local go_sem ↓] Go.wp_at_zero Go.wp_at_succ

theorem rturned_7 (x : Nat) (w : World) (hx : x < 4294967296) : Calls Tryd.prog 72 #[.int .u32 x, .int .i64 7] w fun e w' => e = .returned (.int .u32 (rotr x 7 : Nat)) ∧ ∃ n, w' = w.drewN n := rturned_any x 7 w hx (by omega) (by omega)
theorem rturned_18 (x : Nat) (w : World) (hx : x < 4294967296) : Calls Tryd.prog 72 #[.int .u32 x, .int .i64 18] w fun e w' => e = .returned (.int .u32 (rotr x 18 : Nat)) ∧ ∃ n, w' = w.drewN n := rturned_any x 18 w hx (by omega) (by omega)
theorem rturned_17 (x : Nat) (w : World) (hx : x < 4294967296) : Calls Tryd.prog 72 #[.int .u32 x, .int .i64 17] w fun e w' => e = .returned (.int .u32 (rotr x 17 : Nat)) ∧ ∃ n, w' = w.drewN n := rturned_any x 17 w hx (by omega) (by omega)
theorem rturned_19 (x : Nat) (w : World) (hx : x < 4294967296) : Calls Tryd.prog 72 #[.int .u32 x, .int .i64 19] w fun e w' => e = .returned (.int .u32 (rotr x 19 : Nat)) ∧ ∃ n, w' = w.drewN n := rturned_any x 19 w hx (by omega) (by omega)
theorem rturned_6 (x : Nat) (w : World) (hx : x < 4294967296) : Calls Tryd.prog 72 #[.int .u32 x, .int .i64 6] w fun e w' => e = .returned (.int .u32 (rotr x 6 : Nat)) ∧ ∃ n, w' = w.drewN n := rturned_any x 6 w hx (by omega) (by omega)
theorem rturned_11 (x : Nat) (w : World) (hx : x < 4294967296) : Calls Tryd.prog 72 #[.int .u32 x, .int .i64 11] w fun e w' => e = .returned (.int .u32 (rotr x 11 : Nat)) ∧ ∃ n, w' = w.drewN n := rturned_any x 11 w hx (by omega) (by omega)
theorem rturned_25 (x : Nat) (w : World) (hx : x < 4294967296) : Calls Tryd.prog 72 #[.int .u32 x, .int .i64 25] w fun e w' => e = .returned (.int .u32 (rotr x 25 : Nat)) ∧ ∃ n, w' = w.drewN n := rturned_any x 25 w hx (by omega) (by omega)
theorem rturned_2 (x : Nat) (w : World) (hx : x < 4294967296) : Calls Tryd.prog 72 #[.int .u32 x, .int .i64 2] w fun e w' => e = .returned (.int .u32 (rotr x 2 : Nat)) ∧ ∃ n, w' = w.drewN n := rturned_any x 2 w hx (by omega) (by omega)
theorem rturned_13 (x : Nat) (w : World) (hx : x < 4294967296) : Calls Tryd.prog 72 #[.int .u32 x, .int .i64 13] w fun e w' => e = .returned (.int .u32 (rotr x 13 : Nat)) ∧ ∃ n, w' = w.drewN n := rturned_any x 13 w hx (by omega) (by omega)
theorem rturned_22 (x : Nat) (w : World) (hx : x < 4294967296) : Calls Tryd.prog 72 #[.int .u32 x, .int .i64 22] w fun e w' => e = .returned (.int .u32 (rotr x 22 : Nat)) ∧ ∃ n, w' = w.drewN n := rturned_any x 22 w hx (by omega) (by omega)

theorem rword_bits {b : List Nat} (hb : ∀ j, gt b j < 256) (i : Nat) : bits .or .u32 (bits .or .u32 (bits .or .u32 (((gt b (4 * i) : Nat) : Int) * 16777216 % 4294967296) (((gt b (4 * i + 1) : Nat) : Int) * 65536 % 4294967296)) (((gt b (4 * i + 2) : Nat) : Int) * 256 % 4294967296)) ((gt b (4 * i + 3) : Nat) : Int) = ((wordOf b i : Nat) : Int) := by
  have h3 := hb (4 * i + 3)
  have e1 : (((gt b (4 * i) : Nat) : Int) * 16777216 % 4294967296) = ((gt b (4 * i) * 16777216 % 4294967296 : Nat) : Int) := by simp
  have e2 : (((gt b (4 * i + 1) : Nat) : Int) * 65536 % 4294967296) = ((gt b (4 * i + 1) * 65536 % 4294967296 : Nat) : Int) := by simp
  have e3 : (((gt b (4 * i + 2) : Nat) : Int) * 256 % 4294967296) = ((gt b (4 * i + 2) * 256 % 4294967296 : Nat) : Int) := by simp
  rw [e1, e2, e3, u32_or_nat _ _ (Nat.mod_lt _ (by omega)) (Nat.mod_lt _ (by omega)), u32_or_nat _ _ (or_lt (Nat.mod_lt _ (by omega)) (Nat.mod_lt _ (by omega))) (Nat.mod_lt _ (by omega)), u32_or_nat _ _ (or_lt (or_lt (Nat.mod_lt _ (by omega)) (Nat.mod_lt _ (by omega))) (Nat.mod_lt _ (by omega))) (by omega)]
  rfl
/-- what lies where while a block is reckoned -/
structure RB (w W : World) (gk gw : Nat) (s ws : List Nat) : Prop where
  st : W.rowIs w.heap.size 92 8 (wordRow .u32 s)
  res : W.rowIs (w.heap.size + 1) 92 8 (wordRow .u32 (tab 8 fun _ => 0))
  ks : W.rowIs gk 96 64 (wordRow .u32 consT)
  wd : W.rowIs gw 96 64 (wordRow .u32 ws)
  bel : Below w.heap.size w W
section
variable {w W : World} {gk gw : Nat} {s ws : List Nat}
theorem RB.drew (h : RB w W gk gw s ws) : RB w W.drew gk gw s ws := ⟨h.st, h.res, h.ks, h.wd, h.bel.drew⟩
theorem RB.drewN (h : RB w W gk gw s ws) (n : Nat) : RB w (W.drewN n) gk gw s ws := ⟨h.st, h.res, h.ks, h.wd, ⟨h.bel.os, h.bel.tape, h.bel.output, h.bel.size, h.bel.block⟩⟩
theorem RB.setW (h : RB w W gk gw s ws) (h1 : w.heap.size + 2 ≤ gk) (h2 : gk < gw) (hl : ws.length = 64) (i v : Nat) (hi : i < 64) {j : Nat} (hj : j = i) {z : Int} (hz : z = (v : Int)) : RB w (W.setCell ⟨gw, j, none⟩ (.int .u32 z)) gk gw s (ws.set i v) :=
  ⟨h.st.setOther (by show w.heap.size ≠ gw; omega) _, h.res.setOther (by show w.heap.size + 1 ≠ gw; omega) _, h.ks.setOther (by show gk ≠ gw; omega) _, row_setZ h.wd hl i v hi hj hz, h.bel.setCell (by show w.heap.size ≤ gw; omega) _⟩
theorem RB.alloc (h : RB w W gk gw s ws) (o : Obj) : RB w (W.alloc o) gk gw s ws := ⟨h.st.alloc o, h.res.alloc o, h.ks.alloc o, h.wd.alloc o, h.bel.alloc h.bel.size o⟩
theorem RB.setSt (h : RB w W gk gw s ws) (h1 : w.heap.size + 2 ≤ gk) (h2 : gk < gw) (hl : s.length = 8) (i v : Nat) (hi : i < 8) {j : Nat} (hj : j = i) {z : Int} (hz : z = (v : Int)) : RB w (W.setCell ⟨w.heap.size, j, none⟩ (.int .u32 z)) gk gw (s.set i v) ws :=
  ⟨row_setZ h.st hl i v hi hj hz, h.res.setOther (by show w.heap.size + 1 ≠ w.heap.size; omega) _, h.ks.setOther (by show gk ≠ w.heap.size; omega) _, h.wd.setOther (by show gw ≠ w.heap.size; omega) _, h.bel.setCell (Nat.le_refl _) _⟩
theorem RB.setRow (h : RB w W gk gw s ws) {g : Nat} (h1 : w.heap.size + 2 ≤ gk) (h2 : gk < gw) (hg : gw < g) (cs : Array Value) : RB w (W.setRow g cs) gk gw s ws :=
  ⟨h.st.of_block (setRow_other _ _ _ _ (by omega)), h.res.of_block (setRow_other _ _ _ _ (by omega)), h.ks.of_block (setRow_other _ _ _ _ (by omega)), h.wd.of_block (setRow_other _ _ _ _ (by omega)), below_setRow h.bel (by omega) _⟩
end

set_option maxHeartbeats 8000000 in
set_option maxRecDepth 100000 in
theorem rblock_to (s b : List Nat) (ad : Addr) (c : Nat) (w : World) (ws v64 out : List Nat) (hO : Ok 4294967296 8 s) (hB : Ok 256 64 b) (had : ad.block < w.heap.size) (hc : ∀ j, j < 64 → w.cell? (ad.add j) = some (.int .u8 (gt b j : Nat)))
    (HW : Hid (Unit → moreTo (firstTo b 16) 48 = ws)) (HV : Hid (Unit → roundsTo ws s 64 = v64)) (HOUT : Hid (Unit → sumTo s v64 8 = out)) :
    Calls Tryd.prog 66 #[.agg (numsOf .u32 s), .slice (some ad) 64 c] w fun e w' => e = .returned (.agg (numsOf .u32 out)) ∧ Below w.heap.size w w' := by
  have HO := Lib.hid hO; have HOB := Lib.hid hB; have HC := Lib.hid hc; clear hO hB hc
  have HSS := Lib.hid (show (numsOf .u32 s).size = 8 by rw [numsOf_size]; exact HO.out.1)
  go_enter Tryd.func66, Tryd.ntmps66
  go_wp2_with fail
  refine (rconsts_any _).mono ?_
  rintro e' w1 ⟨rfl, hB1⟩
  have e8 : (#[Value.int IntKind.u32 0, Value.int IntKind.u32 0, Value.int IntKind.u32 0, Value.int IntKind.u32 0, Value.int IntKind.u32 0, Value.int IntKind.u32 0, Value.int IntKind.u32 0, Value.int IntKind.u32 0] : Array Value) = numsOf .u32 (tab 8 fun _ => 0) := by rfl
  rw [e8] at hB1
  have HR0 := Lib.hid (rowIs_words (heap_alloc_last w (.cells (numsOf .u32 s) 92)) HO.out.1)
  have HZ0 := Lib.hid (rowIs_words (heap_alloc_last (w.alloc (.cells (numsOf .u32 s) 92)) (.cells (numsOf .u32 (tab 8 fun _ => 0)) 92)) (tab_len 8 _))
  have e1 : (w.alloc (.cells (numsOf .u32 s) 92)).heap.size = w.heap.size + 1 := by simp
  have e2 : ((w.alloc (.cells (numsOf .u32 s) 92)).alloc (.cells (numsOf .u32 (tab 8 fun _ => 0)) 92)).heap.size = w.heap.size + 2 := by simp
  rw [e1] at HZ0
  have hB1' : Below (w.heap.size + 2) ((w.alloc (.cells (numsOf .u32 s) 92)).alloc (.cells (numsOf .u32 (tab 8 fun _ => 0)) 92)) w1 := e2 ▸ hB1
  have HS1 : Hid (w1.rowIs w.heap.size 92 8 (wordRow .u32 s)) := Lib.hid ((HR0.out.alloc _).of_block (hB1'.block _ (by omega)))
  have HZ1 : Hid (w1.rowIs (w.heap.size + 1) 92 8 (wordRow .u32 (tab 8 fun _ => 0))) := Lib.hid (HZ0.out.of_block (hB1'.block _ (by omega)))
  have HB1 : Hid (Below w.heap.size w w1) := Lib.hid ((((Below.refl _ _).alloc (Nat.le_refl _) _).alloc (by simp) _).trans (hB1'.mono (by omega)))
  have hs1 : w.heap.size + 2 ≤ w1.heap.size := by have := hB1'.size; omega
  clear hB1 hB1' e1 e2 e8 HR0 HZ0
  generalize hm : consT = cT at *
  have hl : cT.length = 64 := by rw [← hm]; rfl
  have hi : (Tryd.prog.info? 96).map (·.size) = some (numsOf .u32 cT).size := by rw [numsOf_size, hl]; kernel_rfl
  have HZM := Lib.hid (show (numsOf .u32 z64).size = (numsOf .u32 cT).size by rw [numsOf_size, numsOf_size, z64_len, hl]); have HI := Lib.hid hi; have HM := Lib.hid (fun _ : Unit => hm); clear hi hm
  go_wp2_with (refine wpList_store_row rfl 96 (.tmp 5) (.tmp 18) rfl w1.heap.size (numsOf .u32 cT) rfl rfl 96 (numsOf .u32 z64) (heap_alloc_last w1 _) HI.out HZM.out (numsOf_one _ _) ?_; rw [World.setRow_alloc_new])
  have HRB : Hid (RB w ((w1.alloc (.cells (numsOf .u32 cT) 96)).alloc (.cells (numsOf .u32 z64) 96)) w1.heap.size (w1.heap.size + 1) s (firstTo b 0)) := Lib.hid (by
    have e : (w1.alloc (.cells (numsOf .u32 cT) 96)).heap.size = w1.heap.size + 1 := by simp
    have r := rowIs_words (heap_alloc_last (w1.alloc (.cells (numsOf .u32 cT) 96)) (.cells (numsOf .u32 z64) 96)) z64_len
    rw [e] at r
    refine ⟨(HS1.out.alloc _).alloc _, (HZ1.out.alloc _).alloc _, ?_, ?_, (HB1.out.alloc HB1.out.size _).alloc (by simp; have := HB1.out.size; omega) _⟩
    · rw [HM.out ()]; exact (rowIs_words (heap_alloc_last w1 _) hl).alloc _
    · rw [firstTo_zero]; exact r)
  change Code.wp _ _ _ _ ((w1.alloc (.cells (numsOf .u32 cT) 96)).alloc (.cells (numsOf .u32 z64) 96))
  generalize (w1.alloc (.cells (numsOf .u32 cT) 96)).alloc (.cells (numsOf .u32 z64) 96) = W0 at *
  generalize w1.heap.size = gk at *
  obtain ⟨gw, hgw⟩ : ∃ gw, gw = gk + 1 := ⟨_, rfl⟩
  rw [← hgw] at HRB ⊢
  have hkw : gk < gw := by omega
  clear hgw HS1 HZ1 HB1 HZM HI hl
  go_loopw [7] (fun i W => ∃ k : Nat, k ≤ 16 ∧ i = .int .i64 k ∧ Hid (RB w W gk gw s (firstTo b k))) (fun i _ => 16 - (intOf i).toNat)
  case atStart => exact ⟨0, by omega, rfl, HRB⟩
  case round =>
    obtain ⟨k, hk, rfl, HR1⟩ := hrel
    by_cases hk16 : k < 16
    · obtain ⟨j0, l0, m0, p0⟩ : ∃ j : Nat, j = 4 * k ∧ j < 64 ∧ ((j : Nat) : Int) < 64 := ⟨4 * k, rfl, by omega, by omega⟩
      obtain ⟨j1, l1, m1, p1⟩ : ∃ j : Nat, j = 4 * k + 1 ∧ j < 64 ∧ ((j : Nat) : Int) < 64 := ⟨4 * k + 1, rfl, by omega, by omega⟩
      obtain ⟨j2, l2, m2, p2⟩ : ∃ j : Nat, j = 4 * k + 2 ∧ j < 64 ∧ ((j : Nat) : Int) < 64 := ⟨4 * k + 2, rfl, by omega, by omega⟩
      obtain ⟨j3, l3, m3, p3⟩ : ∃ j : Nat, j = 4 * k + 3 ∧ j < 64 ∧ ((j : Nat) : Int) < 64 := ⟨4 * k + 3, rfl, by omega, by omega⟩
      have hb := rword_bits HOB.out.2 k
      rw [← l3, ← l2, ← l1, ← l0] at hb
      have c0 : wr.cell? (ad.add j0) = some (.int .u8 (gt b j0 : Nat)) := by rw [HR1.out.bel.cell (by rw [add_block]; exact had)]; exact HC.out _ m0
      have c1 : wr.cell? (ad.add j1) = some (.int .u8 (gt b j1 : Nat)) := by rw [HR1.out.bel.cell (by rw [add_block]; exact had)]; exact HC.out _ m1
      have c2 : wr.cell? (ad.add j2) = some (.int .u8 (gt b j2 : Nat)) := by rw [HR1.out.bel.cell (by rw [add_block]; exact had)]; exact HC.out _ m2
      have c3 : wr.cell? (ad.add j3) = some (.int .u8 (gt b j3 : Nat)) := by rw [HR1.out.bel.cell (by rw [add_block]; exact had)]; exact HC.out _ m3
      have x0 : IntKind.i64.wrap (4 * (k : Int)) = (j0 : Int) := by rw [IntKind.wrap_i64]; omega
      have z0 : 4 * (k : Int) = (j0 : Int) := by omega
      have x1 : IntKind.i64.wrap ((j0 : Int) + 1) = (j1 : Int) := by rw [IntKind.wrap_i64]; omega
      have z1 : (j0 : Int) + 1 = (j1 : Int) := by omega
      have x2 : IntKind.i64.wrap ((j0 : Int) + 2) = (j2 : Int) := by rw [IntKind.wrap_i64]; omega
      have z2 : (j0 : Int) + 2 = (j2 : Int) := by omega
      have x3 : IntKind.i64.wrap ((j0 : Int) + 3) = (j3 : Int) := by rw [IntKind.wrap_i64]; omega
      have z3 : (j0 : Int) + 3 = (j3 : Int) := by omega
      have q0 : ((gt b j0 : Nat) : Int) % 4294967296 = ((gt b j0 : Nat) : Int) := by have := HOB.out.2 j0; omega
      have q1 : ((gt b j1 : Nat) : Int) % 4294967296 = ((gt b j1 : Nat) : Int) := by have := HOB.out.2 j1; omega
      have q2 : ((gt b j2 : Nat) : Int) % 4294967296 = ((gt b j2 : Nat) : Int) := by have := HOB.out.2 j2; omega
      have q3 : ((gt b j3 : Nat) : Int) % 4294967296 = ((gt b j3 : Nat) : Int) := by have := HOB.out.2 j3; omega
      clear l0 l1 l2 l3
      generalize gt b j0 = b0 at *
      generalize gt b j1 = b1 at *
      generalize gt b j2 = b2 at *
      generalize gt b j3 = b3 at *
      have d0 := HR1.out.wd.cell (i := k) (by omega)
      have d1 := HR1.out.wd.frozen k
      have HOF := Lib.hid (ok_firstTo HOB.out.2 k)
      have HSU := Lib.hid (fun _ : Unit => firstTo_succ b k (by omega))
      generalize firstTo b k = fs at *
      generalize wordOf b k = wk at *
      unfold wordRow at d0
      go_wp2
      go_region
      go_wp2
      go_roundw
      case rel => exact ⟨k + 1, by omega, by go_num, Lib.hid (by rw [← HSU.out ()]; exact (HR1.out.setW (by omega) hkw HOF.out.1 k wk (by omega) rfl rfl).drew)⟩
      case measure => simp [intOf]; omega
    · obtain rfl : k = 16 := by omega
      clear hk hk16
      have hw0 : Unit → moreTo (firstTo b 16) 48 = ws := HW.out
      have hof := ok_firstTo HOB.out.2 16
      generalize firstTo b 16 = p at *
      have HW0 := Lib.hid hw0; have HOF := Lib.hid hof; clear hw0 hof HW
      rw [show ((16 : Nat) : Int) = 16 from rfl]
      go_wp2
      go_loopw [8] (fun i W => ∃ k j : Nat, j ≤ 48 ∧ j + 16 ≤ k ∧ k ≤ j + 16 ∧ i = .int .i64 (k : Nat) ∧ Hid (RB w W gk gw s (moreTo p j))) (fun i _ => 64 - (intOf i).toNat)
      case atStart => exact ⟨16, 0, by omega, by omega, by omega, rfl, HR1⟩
      case round =>
        obtain ⟨k, j, hj, hjk, hkj, rfl, HR2⟩ := hrel
        by_cases hk64 : k < 64
        · have hok := ok_moreTo HOF.out j hj
          have HSU : Hid (Unit → moreTo p (j + 1) = (moreTo p j).set (j + 16) (nextw (moreTo p j) j)) := Lib.hid fun _ => rfl
          generalize moreTo p j = us at *
          obtain ⟨k16, e16, f16, l16, y16⟩ : ∃ d : Nat, d + 16 ≤ k ∧ k ≤ d + 16 ∧ d < 64 ∧ ((d : Nat) : Int) < 64 := ⟨k - 16, by omega, by omega, by omega, by omega⟩
          obtain ⟨k15, e15, f15, l15, y15⟩ : ∃ d : Nat, d + 15 ≤ k ∧ k ≤ d + 15 ∧ d < 64 ∧ ((d : Nat) : Int) < 64 := ⟨k - 15, by omega, by omega, by omega, by omega⟩
          obtain ⟨k7, e7, f7, l7, y7⟩ : ∃ d : Nat, d + 7 ≤ k ∧ k ≤ d + 7 ∧ d < 64 ∧ ((d : Nat) : Int) < 64 := ⟨k - 7, by omega, by omega, by omega, by omega⟩
          obtain ⟨k2, e2, f2, l2, y2⟩ : ∃ d : Nat, d + 2 ≤ k ∧ k ≤ d + 2 ∧ d < 64 ∧ ((d : Nat) : Int) < 64 := ⟨k - 2, by omega, by omega, by omega, by omega⟩
          have x16 : IntKind.i64.wrap ((k : Int) - 16) = (k16 : Int) := wsub k 16 k16 e16 f16 (by omega)
          have d16 := HR2.out.wd.cell (i := k16) l16
          have x15 : IntKind.i64.wrap ((k : Int) - 15) = (k15 : Int) := wsub k 15 k15 e15 f15 (by omega)
          have d15 := HR2.out.wd.cell (i := k15) l15
          have x7 : IntKind.i64.wrap ((k : Int) - 7) = (k7 : Int) := wsub k 7 k7 e7 f7 (by omega)
          have d7 := HR2.out.wd.cell (i := k7) l7
          have x2 : IntKind.i64.wrap ((k : Int) - 2) = (k2 : Int) := wsub k 2 k2 e2 f2 (by omega)
          have d2 := HR2.out.wd.cell (i := k2) l2
          have y0 : (k : Int) < 64 := by omega
          unfold wordRow at d16 d15 d7 d2
          have b0 := sig0_bits (hok.2 k15)
          have b1 := sig1_bits (hok.2 k2)
          have a1 := add_wrap (gt us k16) (sig0 (gt us k15))
          have a2 := add_wrap (add (gt us k16) (sig0 (gt us k15))) (gt us k7)
          have a3 := add_wrap (add (add (gt us k16) (sig0 (gt us k15))) (gt us k7)) (sig1 (gt us k2))
          have HX15 := Lib.hid (hok.2 k15); have HX2 := Lib.hid (hok.2 k2); have HOK := Lib.hid hok
          have HNX : Hid (Unit → nextw us j = add (add (add (gt us k16) (sig0 (gt us k15))) (gt us k7)) (sig1 (gt us k2))) := Lib.hid fun _ => by
            unfold nextw
            rw [show k16 = j by omega, show k15 = j + 1 by omega, show k7 = j + 9 by omega, show k2 = j + 14 by omega]
          clear hok
          go_wp2
          refine region_calm ?_
          refine wp_region_any (by kernel_rfl) ?_
          change wpAny _ _ _ _ _ _ _ (World.drew _)
          replace HR2 := Lib.hid HR2.out.drew
          clear d16 d15 d7 d2
          generalize wr.drew = wd at *
          have S0 : wd.cell? ⟨gw, k16, none⟩ = some (.int .u32 (gt us k16 : Nat)) ∧ wd.cell? ⟨gw, k7, none⟩ = some (.int .u32 (gt us k7 : Nat)) := ⟨HR2.out.wd.cell l16, HR2.out.wd.cell l7⟩
          refine wpAny_of_held (S := fun w' => w'.cell? ⟨gw, k16, none⟩ = some (.int .u32 (gt us k16 : Nat)) ∧ w'.cell? ⟨gw, k7, none⟩ = some (.int .u32 (gt us k7 : Nat))) _ _ _ _ ?_
          generalize gt us k15 = vx at *
          generalize gt us k2 = vy at *
          refine wpAnyH_take (i := 0) (v := ?v0b) rfl (by kernel_rfl) (by kernel_rfl) (by kernel_rfl) (fun _ _ _ h => h) (Or.inl ⟨by rfl, ?y0b⟩) S0 ?r0b
          case y0b => (intro w hSw; clear hSw; go_simp; try with_reducible rfl)
          simp only [List.getElem_toArray, List.getElem_cons_succ, List.getElem_cons_zero, Act.put, List.setIfInBounds_toArray, List.set_cons_zero, List.set_cons_succ]
          refine wpAnyH_take (i := 1) (v := ?v1b) rfl (by kernel_rfl) (by kernel_rfl) (by kernel_rfl) (fun _ _ _ h => h) (Or.inl ⟨by rfl, ?y1b⟩) S0 ?r1b
          case y1b => (intro w hSw; clear hSw; go_simp; try with_reducible rfl)
          simp only [List.getElem_toArray, List.getElem_cons_succ, List.getElem_cons_zero, Act.put, List.setIfInBounds_toArray, List.set_cons_zero, List.set_cons_succ]
          refine wpAnyH_take (i := 2) (v := ?v2b) rfl (by kernel_rfl) (by kernel_rfl) (by kernel_rfl) (fun _ _ _ h => h) (Or.inl ⟨by rfl, ?y2b⟩) S0 ?r2b
          case y2b => (intro w hSw; clear hSw; go_simp; try with_reducible rfl)
          simp only [List.getElem_toArray, List.getElem_cons_succ, List.getElem_cons_zero, Act.put, List.setIfInBounds_toArray, List.set_cons_zero, List.set_cons_succ]
          refine wpAnyH_take (i := 3) (v := ?v3b) rfl (by kernel_rfl) (by kernel_rfl) (by kernel_rfl) (fun _ _ _ h => h) (Or.inl ⟨by rfl, ?y3b⟩) S0 ?r3b
          case y3b => (intro w hSw; clear hSw; go_simp; try with_reducible rfl)
          simp only [List.getElem_toArray, List.getElem_cons_succ, List.getElem_cons_zero, Act.put, List.setIfInBounds_toArray, List.set_cons_zero, List.set_cons_succ]
          refine wpAnyH_take (i := 4) (v := ?v4b) rfl (by kernel_rfl) (by kernel_rfl) (by kernel_rfl) (fun _ _ _ h => h) (Or.inl ⟨by rfl, ?y4b⟩) S0 ?r4b
          case y4b => (intro w hSw; obtain ⟨hs1, hs2⟩ := hSw; go_simp; try with_reducible rfl)
          simp only [List.getElem_toArray, List.getElem_cons_succ, List.getElem_cons_zero, Act.put, List.setIfInBounds_toArray, List.set_cons_zero, List.set_cons_succ]
          refine wpAnyH_take (i := 5) (v := ?v5b) rfl (by kernel_rfl) (by kernel_rfl) (by kernel_rfl) (fun _ _ _ h => h) (Or.inl ⟨by rfl, ?y5b⟩) S0 ?r5b
          case y5b => (intro w hSw; clear hSw; go_simp; try with_reducible rfl)
          simp only [List.getElem_toArray, List.getElem_cons_succ, List.getElem_cons_zero, Act.put, List.setIfInBounds_toArray, List.set_cons_zero, List.set_cons_succ]
          refine wpAnyH_take (i := 7) (v := ?v7b) rfl (by kernel_rfl) (by kernel_rfl) (by kernel_rfl) (fun _ _ _ h => h) (Or.inl ⟨by rfl, ?y7b⟩) S0 ?r7b
          case y7b => (intro w hSw; clear hSw; go_simp; try with_reducible rfl)
          simp only [List.getElem_toArray, List.getElem_cons_succ, List.getElem_cons_zero, Act.put, List.setIfInBounds_toArray, List.set_cons_zero, List.set_cons_succ]
          refine wpAnyH_take (i := 10) (v := ?v10b) rfl (by kernel_rfl) (by kernel_rfl) (by kernel_rfl) (fun _ _ _ h => h) (Or.inl ⟨by rfl, ?y10b⟩) S0 ?r10b
          case y10b => (intro w hSw; clear hSw; go_simp; try with_reducible rfl)
          simp only [List.getElem_toArray, List.getElem_cons_succ, List.getElem_cons_zero, Act.put, List.setIfInBounds_toArray, List.set_cons_zero, List.set_cons_succ]
          refine wpAnyH_take (i := 11) (v := ?v11b) rfl (by kernel_rfl) (by kernel_rfl) (by kernel_rfl) (fun _ _ _ h => h) (Or.inl ⟨by rfl, ?y11b⟩) S0 ?r11b
          case y11b => (intro w hSw; clear hSw; go_simp; try with_reducible rfl)
          simp only [List.getElem_toArray, List.getElem_cons_succ, List.getElem_cons_zero, Act.put, List.setIfInBounds_toArray, List.set_cons_zero, List.set_cons_succ]
          refine wpAnyH_take (i := 14) (v := ?v14b) rfl (by kernel_rfl) (by kernel_rfl) (by kernel_rfl) (fun _ _ _ h => h) (Or.inl ⟨by rfl, ?y14b⟩) S0 ?r14b
          case y14b => (intro w hSw; clear hSw; go_simp; try with_reducible rfl)
          simp only [List.getElem_toArray, List.getElem_cons_succ, List.getElem_cons_zero, Act.put, List.setIfInBounds_toArray, List.set_cons_zero, List.set_cons_succ]
          refine wpAnyH_take (i := 15) (v := ?v15b) rfl (by kernel_rfl) (by kernel_rfl) (by kernel_rfl) (fun _ _ _ h => h) (Or.inl ⟨by rfl, ?y15b⟩) S0 ?r15b
          case y15b => (intro w hSw; clear hSw; go_simp; try with_reducible rfl)
          simp only [List.getElem_toArray, List.getElem_cons_succ, List.getElem_cons_zero, Act.put, List.setIfInBounds_toArray, List.set_cons_zero, List.set_cons_succ]
          refine wpAnyH_take (i := 16) (v := ?v16b) rfl (by kernel_rfl) (by kernel_rfl) (by kernel_rfl) (fun _ _ _ h => h) (Or.inl ⟨by rfl, ?y16b⟩) S0 ?r16b
          case y16b => (intro w hSw; clear hSw; go_simp; try with_reducible rfl)
          simp only [List.getElem_toArray, List.getElem_cons_succ, List.getElem_cons_zero, Act.put, List.setIfInBounds_toArray, List.set_cons_zero, List.set_cons_succ]
          refine wpAnyH_take (i := 17) (v := ?v17b) rfl (by kernel_rfl) (by kernel_rfl) (by kernel_rfl) (fun _ _ _ h => h) (Or.inl ⟨by rfl, ?y17b⟩) S0 ?r17b
          case y17b => (intro w hSw; obtain ⟨hs1, hs2⟩ := hSw; go_simp; try with_reducible rfl)
          simp only [List.getElem_toArray, List.getElem_cons_succ, List.getElem_cons_zero, Act.put, List.setIfInBounds_toArray, List.set_cons_zero, List.set_cons_succ]
          refine wpAnyH_take (i := 19) (v := ?v19b) rfl (by kernel_rfl) (by kernel_rfl) (by kernel_rfl) (fun _ _ _ h => h) (Or.inl ⟨by rfl, ?y19b⟩) S0 ?r19b
          case y19b => (intro w hSw; clear hSw; go_simp; try with_reducible rfl)
          simp only [List.getElem_toArray, List.getElem_cons_succ, List.getElem_cons_zero, Act.put, List.setIfInBounds_toArray, List.set_cons_zero, List.set_cons_succ]
          refine wpAnyH_take (i := 21) (v := ?v21b) rfl (by kernel_rfl) (by kernel_rfl) (by kernel_rfl) (fun _ _ _ h => h) (Or.inl ⟨by rfl, ?y21b⟩) S0 ?r21b
          case y21b => (intro w hSw; clear hSw; go_simp; try with_reducible rfl)
          simp only [List.getElem_toArray, List.getElem_cons_succ, List.getElem_cons_zero, Act.put, List.setIfInBounds_toArray, List.set_cons_zero, List.set_cons_succ]
          refine wpAnyH_take (i := 24) (v := ?v24b) rfl (by kernel_rfl) (by kernel_rfl) (by kernel_rfl) (fun _ _ _ h => h) (Or.inl ⟨by rfl, ?y24b⟩) S0 ?r24b
          case y24b => (intro w hSw; clear hSw; go_simp; try with_reducible rfl)
          simp only [List.getElem_toArray, List.getElem_cons_succ, List.getElem_cons_zero, Act.put, List.setIfInBounds_toArray, List.set_cons_zero, List.set_cons_succ]
          refine wpAnyH_take (i := 25) (v := ?v25b) rfl (by kernel_rfl) (by kernel_rfl) (by kernel_rfl) (fun _ _ _ h => h) (Or.inl ⟨by rfl, ?y25b⟩) S0 ?r25b
          case y25b => (intro w hSw; clear hSw; go_simp; try with_reducible rfl)
          simp only [List.getElem_toArray, List.getElem_cons_succ, List.getElem_cons_zero, Act.put, List.setIfInBounds_toArray, List.set_cons_zero, List.set_cons_succ]
          refine wpAnyH_ready (rs := [6]) (by kernel_rfl) (by simp) ?_
          refine AllReadyH.cons rfl (fun K hK => ?_) AllReadyH.nil
          simp only [List.getElem_toArray, List.getElem_cons_succ, List.getElem_cons_zero]
          go_simp
          refine (rturned_7 _ _ HX15.out).mono ?_
          rintro e' wz1 ⟨rfl, q, hq⟩
          have S1 : wz1.cell? ⟨gw, k16, none⟩ = some (.int .u32 (gt us k16 : Nat)) ∧ wz1.cell? ⟨gw, k7, none⟩ = some (.int .u32 (gt us k7 : Nat)) := by rw [hq]; exact S0
          replace HR2 := Lib.hid (show _ from hq ▸ HR2.out.drewN q)
          clear hq
          refine hK.out _ _ S1 (fun _ => ?_)
          clear hK K
          try simp only [List.getElem_toArray, List.getElem_cons_succ, List.getElem_cons_zero, Act.put, List.setIfInBounds_toArray, List.set_cons_zero, List.set_cons_succ]
          refine wpAnyH_ready (rs := [8]) (by kernel_rfl) (by simp) ?_
          refine AllReadyH.cons rfl (fun K hK => ?_) AllReadyH.nil
          simp only [List.getElem_toArray, List.getElem_cons_succ, List.getElem_cons_zero]
          go_simp
          refine (rturned_18 _ _ HX15.out).mono ?_
          rintro e' wz2 ⟨rfl, q, hq⟩
          have S2 : wz2.cell? ⟨gw, k16, none⟩ = some (.int .u32 (gt us k16 : Nat)) ∧ wz2.cell? ⟨gw, k7, none⟩ = some (.int .u32 (gt us k7 : Nat)) := by rw [hq]; exact S1
          replace HR2 := Lib.hid (show _ from hq ▸ HR2.out.drewN q)
          clear hq
          refine hK.out _ _ S2 (fun _ => ?_)
          clear hK K
          try simp only [List.getElem_toArray, List.getElem_cons_succ, List.getElem_cons_zero, Act.put, List.setIfInBounds_toArray, List.set_cons_zero, List.set_cons_succ]
          refine wpAnyH_take (i := 9) (v := ?v9b) rfl (by kernel_rfl) (by kernel_rfl) (by kernel_rfl) (fun _ _ _ h => h) (Or.inl ⟨by rfl, ?y9b⟩) S2 ?r9b
          case y9b => (intro w hSw; clear hSw; go_simp; try with_reducible rfl)
          simp only [List.getElem_toArray, List.getElem_cons_succ, List.getElem_cons_zero, Act.put, List.setIfInBounds_toArray, List.set_cons_zero, List.set_cons_succ]
          refine wpAnyH_take (i := 12) (v := ?v12b) rfl (by kernel_rfl) (by kernel_rfl) (by kernel_rfl) (fun _ _ _ h => h) (Or.inl ⟨by rfl, ?y12b⟩) S2 ?r12b
          case y12b => (intro w hSw; clear hSw; go_simp; try with_reducible rfl)
          simp only [List.getElem_toArray, List.getElem_cons_succ, List.getElem_cons_zero, Act.put, List.setIfInBounds_toArray, List.set_cons_zero, List.set_cons_succ]
          refine wpAnyH_take (i := 13) (v := ?v13b) rfl (by kernel_rfl) (by kernel_rfl) (by kernel_rfl) (fun _ _ _ h => h) (Or.inl ⟨by rfl, ?y13b⟩) S2 ?r13b
          case y13b => (intro w hSw; clear hSw; go_simp; try with_reducible rfl)
          simp only [List.getElem_toArray, List.getElem_cons_succ, List.getElem_cons_zero, Act.put, List.setIfInBounds_toArray, List.set_cons_zero, List.set_cons_succ]
          refine wpAnyH_take (i := 18) (v := ?v18b) rfl (by kernel_rfl) (by kernel_rfl) (by kernel_rfl) (fun _ _ _ h => h) (Or.inl ⟨by rfl, ?y18b⟩) S2 ?r18b
          case y18b => (intro w hSw; clear hSw; go_simp; try with_reducible rfl)
          simp only [List.getElem_toArray, List.getElem_cons_succ, List.getElem_cons_zero, Act.put, List.setIfInBounds_toArray, List.set_cons_zero, List.set_cons_succ]
          refine wpAnyH_ready (rs := [20]) (by kernel_rfl) (by simp) ?_
          refine AllReadyH.cons rfl (fun K hK => ?_) AllReadyH.nil
          simp only [List.getElem_toArray, List.getElem_cons_succ, List.getElem_cons_zero]
          go_simp
          refine (rturned_17 _ _ HX2.out).mono ?_
          rintro e' wz3 ⟨rfl, q, hq⟩
          have S3 : wz3.cell? ⟨gw, k16, none⟩ = some (.int .u32 (gt us k16 : Nat)) ∧ wz3.cell? ⟨gw, k7, none⟩ = some (.int .u32 (gt us k7 : Nat)) := by rw [hq]; exact S2
          replace HR2 := Lib.hid (show _ from hq ▸ HR2.out.drewN q)
          clear hq
          refine hK.out _ _ S3 (fun _ => ?_)
          clear hK K
          try simp only [List.getElem_toArray, List.getElem_cons_succ, List.getElem_cons_zero, Act.put, List.setIfInBounds_toArray, List.set_cons_zero, List.set_cons_succ]
          refine wpAnyH_ready (rs := [22]) (by kernel_rfl) (by simp) ?_
          refine AllReadyH.cons rfl (fun K hK => ?_) AllReadyH.nil
          simp only [List.getElem_toArray, List.getElem_cons_succ, List.getElem_cons_zero]
          go_simp
          refine (rturned_19 _ _ HX2.out).mono ?_
          rintro e' wz4 ⟨rfl, q, hq⟩
          have S4 : wz4.cell? ⟨gw, k16, none⟩ = some (.int .u32 (gt us k16 : Nat)) ∧ wz4.cell? ⟨gw, k7, none⟩ = some (.int .u32 (gt us k7 : Nat)) := by rw [hq]; exact S3
          replace HR2 := Lib.hid (show _ from hq ▸ HR2.out.drewN q)
          clear hq
          refine hK.out _ _ S4 (fun _ => ?_)
          clear hK K
          try simp only [List.getElem_toArray, List.getElem_cons_succ, List.getElem_cons_zero, Act.put, List.setIfInBounds_toArray, List.set_cons_zero, List.set_cons_succ]
          refine wpAnyH_take (i := 23) (v := ?v23b) rfl (by kernel_rfl) (by kernel_rfl) (by kernel_rfl) (fun _ _ _ h => h) (Or.inl ⟨by rfl, ?y23b⟩) S4 ?r23b
          case y23b => (intro w hSw; clear hSw; go_simp; try with_reducible rfl)
          simp only [List.getElem_toArray, List.getElem_cons_succ, List.getElem_cons_zero, Act.put, List.setIfInBounds_toArray, List.set_cons_zero, List.set_cons_succ]
          refine wpAnyH_take (i := 26) (v := ?v26b) rfl (by kernel_rfl) (by kernel_rfl) (by kernel_rfl) (fun _ _ _ h => h) (Or.inl ⟨by rfl, ?y26b⟩) S4 ?r26b
          case y26b => (intro w hSw; clear hSw; go_simp; try with_reducible rfl)
          simp only [List.getElem_toArray, List.getElem_cons_succ, List.getElem_cons_zero, Act.put, List.setIfInBounds_toArray, List.set_cons_zero, List.set_cons_succ]
          refine wpAnyH_take (i := 27) (v := ?v27b) rfl (by kernel_rfl) (by kernel_rfl) (by kernel_rfl) (fun _ _ _ h => h) (Or.inl ⟨by rfl, ?y27b⟩) S4 ?r27b
          case y27b => (intro w hSw; clear hSw; go_simp; try with_reducible rfl)
          simp only [List.getElem_toArray, List.getElem_cons_succ, List.getElem_cons_zero, Act.put, List.setIfInBounds_toArray, List.set_cons_zero, List.set_cons_succ]
          refine wpAnyH_take (i := 28) (v := ?v28b) rfl (by kernel_rfl) (by kernel_rfl) (by kernel_rfl) (fun _ _ _ h => h) (Or.inl ⟨by rfl, ?y28b⟩) S4 ?r28b
          case y28b => (intro w hSw; clear hSw; go_simp; try with_reducible rfl)
          simp only [List.getElem_toArray, List.getElem_cons_succ, List.getElem_cons_zero, Act.put, List.setIfInBounds_toArray, List.set_cons_zero, List.set_cons_succ]
          have d4 := HR2.out.wd.cell (i := k) hk64
          have d5 := HR2.out.wd.frozen k
          unfold wordRow at d4
          refine wpAnyH_ready (rs := [29]) (by kernel_rfl) (by simp) ?_
          refine AllReadyH.cons rfl (fun K hK => ?_) AllReadyH.nil
          simp only [List.getElem_toArray, List.getElem_cons_succ, List.getElem_cons_zero]
          go_simp
          have HR3 := Lib.hid (HR2.out.setW (by omega) hkw HOK.out.1 (j + 16) _ (by omega) (j := k) (by omega) (z := ((add (add (add (gt us k16) (sig0 vx)) (gt us k7)) (sig1 vy) : Nat) : Int)) rfl)
          have S5 : (wz4.setCell ⟨gw, k, none⟩ (.int .u32 ((add (add (add (gt us k16) (sig0 vx)) (gt us k7)) (sig1 vy) : Nat) : Int))).cell? ⟨gw, k16, none⟩ = some (.int .u32 (gt us k16 : Nat)) ∧ (wz4.setCell ⟨gw, k, none⟩ (.int .u32 ((add (add (add (gt us k16) (sig0 vx)) (gt us k7)) (sig1 vy) : Nat) : Int))).cell? ⟨gw, k7, none⟩ = some (.int .u32 (gt us k7 : Nat)) := by
            refine ⟨(HR3.out.wd.cell l16).trans ?_, (HR3.out.wd.cell l7).trans ?_⟩
            · unfold wordRow; rw [gt_set _ _ _ _ (by rw [HOK.out.1]; omega), if_neg (by omega)]
            · unfold wordRow; rw [gt_set _ _ _ _ (by rw [HOK.out.1]; omega), if_neg (by omega)]
          refine hK.out _ _ S5 (fun _ => ?_)
          clear hK K
          try simp only [List.getElem_toArray, List.getElem_cons_succ, List.getElem_cons_zero, Act.put, List.setIfInBounds_toArray, List.set_cons_zero, List.set_cons_succ]
          refine wpAnyH_done (by kernel_rfl) ?_ _
          dsimp only
          go_wp2
          go_roundw
          case rel => exact ⟨k + 1, j + 1, by omega, by omega, by omega, by go_num, Lib.hid (by rw [HSU.out (), HNX.out ()]; exact HR3.out)⟩
          case measure => simp [intOf]; omega
        · obtain rfl : j = 48 := by omega
          obtain rfl : k = 64 := by omega
          rw [HW0.out ()] at HR2
          clear hj hjk hkj hk64 HW0 HOF HR1
          rw [show ((64 : Nat) : Int) = 64 from rfl]
          have HI8 : Hid ((Tryd.prog.info? 92).map (·.size) = some (numsOf .u32 s).size) := Lib.hid (by rw [HSS.out]; kernel_rfl)
          have HZ8 := Lib.hid (show (numsOf .u32 (tab 8 fun _ => 0)).size = (numsOf .u32 s).size by rw [HSS.out, numsOf_size, tab_len])
          have HSr := Lib.hid (heap_words HR2.out.st HO.out.1)
          go_wp2_with (first | (refine wpList_load_row rfl 92 (.tmp 2) rfl w.heap.size rfl 92 (numsOf .u32 s) (0, 0) _ HSr.out Tryd.underlying92 rfl HI8.out ?_) | (refine wpList_store_row rfl 92 (.tmp 11) (.tmp 99) rfl wr.heap.size (numsOf .u32 s) rfl rfl 92 (numsOf .u32 (tab 8 fun _ => 0)) (heap_alloc_last wr _) HI8.out HZ8.out (numsOf_one _ _) ?_; rw [World.setRow_alloc_new]))
          have HR3 := Lib.hid (HR2.out.alloc (.cells (numsOf .u32 s) 92))
          have HV3 := Lib.hid (rowIs_words (heap_alloc_last wr (.cells (numsOf .u32 s) 92)) HO.out.1)
          have hgv : gw < wr.heap.size := HR2.out.wd.lt
          generalize wr.alloc (.cells (numsOf .u32 s) 92) = W3 at *
          generalize wr.heap.size = gv at *
          clear HSr HR2
          go_loopw [12] (fun i W => ∃ (k : Nat) (v : List Nat), k ≤ 64 ∧ i = .int .i64 k ∧ Hid (Unit → roundsTo ws s k = v) ∧ Hid (RB w W gk gw s ws) ∧ Hid (W.rowIs gv 92 8 (wordRow .u32 v))) (fun i _ => 64 - (intOf i).toNat)
          case atStart => exact ⟨0, s, by omega, rfl, Lib.hid fun _ => rfl, HR3, HV3⟩
          case round =>
            obtain ⟨k, v, hk, rfl, HVk, HR4, HV4⟩ := hrel
            have hov : Ok 4294967296 8 v := by rw [← HVk.out ()]; exact ok_roundsTo HO.out k
            by_cases hk64 : k < 64
            · have HNX : Hid (Unit → roundsTo ws s (k + 1) = round v (gt consT k) (gt ws k)) := Lib.hid fun _ => by rw [← HVk.out ()]; rfl
              have d0 : wr.cell? ⟨gv, 0, none⟩ = some (.int .u32 (gt v 0 : Nat)) := HV4.out.cell (i := 0) (by omega)
              have d1 : wr.cell? ⟨gv, 1, none⟩ = some (.int .u32 (gt v 1 : Nat)) := HV4.out.cell (i := 1) (by omega)
              have d2 : wr.cell? ⟨gv, 2, none⟩ = some (.int .u32 (gt v 2 : Nat)) := HV4.out.cell (i := 2) (by omega)
              have d3 : wr.cell? ⟨gv, 3, none⟩ = some (.int .u32 (gt v 3 : Nat)) := HV4.out.cell (i := 3) (by omega)
              have d4 : wr.cell? ⟨gv, 4, none⟩ = some (.int .u32 (gt v 4 : Nat)) := HV4.out.cell (i := 4) (by omega)
              have d5 : wr.cell? ⟨gv, 5, none⟩ = some (.int .u32 (gt v 5 : Nat)) := HV4.out.cell (i := 5) (by omega)
              have d6 : wr.cell? ⟨gv, 6, none⟩ = some (.int .u32 (gt v 6 : Nat)) := HV4.out.cell (i := 6) (by omega)
              have d7 : wr.cell? ⟨gv, 7, none⟩ = some (.int .u32 (gt v 7 : Nat)) := HV4.out.cell (i := 7) (by omega)
              have t0 : wr.cell? ⟨gk, k, none⟩ = some (.int .u32 (gt consT k : Nat)) := HR4.out.ks.cell hk64
              have t1 : wr.cell? ⟨gw, k, none⟩ = some (.int .u32 (gt ws k : Nat)) := HR4.out.wd.cell hk64
              have yk : (k : Int) < 64 := by omega
              have n0 : bits .xor .u32 IntKind.u32.max ((gt v 4 : Nat) : Int) = (notw (gt v 4) : Nat) := u32_not (gt v 4) (hov.2 4)
              have n1 := u32_not (gt v 4) (hov.2 4)
              have n2 := ch_bits (hov.2 4) (hov.2 5) (hov.2 6)
              have n3 := maj_bits (hov.2 0) (hov.2 1) (hov.2 2)
              have n4 := turned_bits 6 11 25 (hov.2 4)
              have n5 := turned_bits 2 13 22 (hov.2 0)
              have a1 := add_wrap (gt v 7) (turned (gt v 4) 6 11 25)
              have a2 := add_wrap (add (gt v 7) (turned (gt v 4) 6 11 25)) (ch (gt v 4) (gt v 5) (gt v 6))
              have a3 := add_wrap (add (add (gt v 7) (turned (gt v 4) 6 11 25)) (ch (gt v 4) (gt v 5) (gt v 6))) (gt consT k)
              have a4 : IntKind.u32.wrap (((add (add (add (gt v 7) (turned (gt v 4) 6 11 25)) (ch (gt v 4) (gt v 5) (gt v 6))) (gt consT k) : Nat) : Int) + ((gt ws k : Nat) : Int)) = ((tOf v (gt consT k) (gt ws k) : Nat) : Int) := by
                unfold tOf; exact add_wrap _ _
              have b1 : IntKind.u32.wrap (((turned (gt v 0) 2 13 22 : Nat) : Int) + ((maj (gt v 0) (gt v 1) (gt v 2) : Nat) : Int)) = ((uOf v : Nat) : Int) := by unfold uOf; exact add_wrap _ _
              have HX4 := Lib.hid (hov.2 4); have HX0 := Lib.hid (hov.2 0); have HOV := Lib.hid hov; clear hov
              generalize gt consT k = ck at *
              generalize gt ws k = wk at *
              go_wp2
              refine region_calm ?_
              refine wp_region_any (by kernel_rfl) ?_
              change wpAny _ _ _ _ _ _ _ (World.drew _)
              have S0 : wr.drew.cell? ⟨gv, 7, none⟩ = some (.int .u32 (gt v 7 : Nat)) ∧ wr.drew.cell? ⟨gv, 5, none⟩ = some (.int .u32 (gt v 5 : Nat)) ∧ wr.drew.cell? ⟨gv, 6, none⟩ = some (.int .u32 (gt v 6 : Nat)) ∧ wr.drew.cell? ⟨gk, k, none⟩ = some (.int .u32 (ck : Nat)) ∧ wr.drew.cell? ⟨gw, k, none⟩ = some (.int .u32 (wk : Nat)) := ⟨d7, d5, d6, t0, t1⟩
              replace HR4 := Lib.hid HR4.out.drew
              replace HV4 := Lib.hid HV4.out.drew
              clear d0 d1 d2 d3 d4 d5 d6 d7 t0 t1
              generalize wr.drew = wd at *
              refine wpAny_of_held (S := fun w' => w'.cell? ⟨gv, 7, none⟩ = some (.int .u32 (gt v 7 : Nat)) ∧ w'.cell? ⟨gv, 5, none⟩ = some (.int .u32 (gt v 5 : Nat)) ∧ w'.cell? ⟨gv, 6, none⟩ = some (.int .u32 (gt v 6 : Nat)) ∧ w'.cell? ⟨gk, k, none⟩ = some (.int .u32 (ck : Nat)) ∧ w'.cell? ⟨gw, k, none⟩ = some (.int .u32 (wk : Nat))) _ _ _ _ ?_
              refine wpAnyH_take (i := 0) (v := ?v0c) rfl (by kernel_rfl) (by kernel_rfl) (by kernel_rfl) (fun _ _ _ h => h) (Or.inl ⟨by rfl, ?y0c⟩) S0 ?r0c
              case y0c => (intro w hSw; clear hSw; go_simp; try with_reducible rfl)
              simp only [List.getElem_toArray, List.getElem_cons_succ, List.getElem_cons_zero, Act.put, List.setIfInBounds_toArray, List.set_cons_zero, List.set_cons_succ]
              refine wpAnyH_take (i := 1) (v := ?v1c) rfl (by kernel_rfl) (by kernel_rfl) (by kernel_rfl) (fun _ _ _ h => h) (Or.inl ⟨by rfl, ?y1c⟩) S0 ?r1c
              case y1c => (intro w hSw; obtain ⟨hs1, hs2, hs3, hs4, hs5⟩ := hSw; go_simp; try with_reducible rfl)
              simp only [List.getElem_toArray, List.getElem_cons_succ, List.getElem_cons_zero, Act.put, List.setIfInBounds_toArray, List.set_cons_zero, List.set_cons_succ]
              refine wpAnyH_take (i := 2) (v := ?v2c) rfl (by kernel_rfl) (by kernel_rfl) (by kernel_rfl) (fun _ _ _ h => h) (Or.inl ⟨by rfl, ?y2c⟩) S0 ?r2c
              case y2c => (intro w hSw; clear hSw; go_simp; try with_reducible rfl)
              simp only [List.getElem_toArray, List.getElem_cons_succ, List.getElem_cons_zero, Act.put, List.setIfInBounds_toArray, List.set_cons_zero, List.set_cons_succ]
              refine wpAnyH_take (i := 4) (v := ?v4c) rfl (by kernel_rfl) (by kernel_rfl) (by kernel_rfl) (fun _ _ _ h => h) (Or.inl ⟨by rfl, ?y4c⟩) S0 ?r4c
              case y4c => (intro w hSw; clear hSw; go_simp; try with_reducible rfl)
              simp only [List.getElem_toArray, List.getElem_cons_succ, List.getElem_cons_zero, Act.put, List.setIfInBounds_toArray, List.set_cons_zero, List.set_cons_succ]
              refine wpAnyH_take (i := 7) (v := ?v7c) rfl (by kernel_rfl) (by kernel_rfl) (by kernel_rfl) (fun _ _ _ h => h) (Or.inl ⟨by rfl, ?y7c⟩) S0 ?r7c
              case y7c => (intro w hSw; clear hSw; go_simp; try with_reducible rfl)
              simp only [List.getElem_toArray, List.getElem_cons_succ, List.getElem_cons_zero, Act.put, List.setIfInBounds_toArray, List.set_cons_zero, List.set_cons_succ]
              refine wpAnyH_take (i := 11) (v := ?v11c) rfl (by kernel_rfl) (by kernel_rfl) (by kernel_rfl) (fun _ _ _ h => h) (Or.inl ⟨by rfl, ?y11c⟩) S0 ?r11c
              case y11c => (intro w hSw; clear hSw; go_simp; try with_reducible rfl)
              simp only [List.getElem_toArray, List.getElem_cons_succ, List.getElem_cons_zero, Act.put, List.setIfInBounds_toArray, List.set_cons_zero, List.set_cons_succ]
              refine wpAnyH_take (i := 12) (v := ?v12c) rfl (by kernel_rfl) (by kernel_rfl) (by kernel_rfl) (fun _ _ _ h => h) (Or.inl ⟨by rfl, ?y12c⟩) S0 ?r12c
              case y12c => (intro w hSw; clear hSw; go_simp; try with_reducible rfl)
              simp only [List.getElem_toArray, List.getElem_cons_succ, List.getElem_cons_zero, Act.put, List.setIfInBounds_toArray, List.set_cons_zero, List.set_cons_succ]
              refine wpAnyH_take (i := 13) (v := ?v13c) rfl (by kernel_rfl) (by kernel_rfl) (by kernel_rfl) (fun _ _ _ h => h) (Or.inl ⟨by rfl, ?y13c⟩) S0 ?r13c
              case y13c => (intro w hSw; obtain ⟨hs1, hs2, hs3, hs4, hs5⟩ := hSw; go_simp; try with_reducible rfl)
              simp only [List.getElem_toArray, List.getElem_cons_succ, List.getElem_cons_zero, Act.put, List.setIfInBounds_toArray, List.set_cons_zero, List.set_cons_succ]
              refine wpAnyH_take (i := 14) (v := ?v14c) rfl (by kernel_rfl) (by kernel_rfl) (by kernel_rfl) (fun _ _ _ h => h) (Or.inl ⟨by rfl, ?y14c⟩) S0 ?r14c
              case y14c => (intro w hSw; clear hSw; go_simp; try with_reducible rfl)
              simp only [List.getElem_toArray, List.getElem_cons_succ, List.getElem_cons_zero, Act.put, List.setIfInBounds_toArray, List.set_cons_zero, List.set_cons_succ]
              refine wpAnyH_take (i := 15) (v := ?v15c) rfl (by kernel_rfl) (by kernel_rfl) (by kernel_rfl) (fun _ _ _ h => h) (Or.inl ⟨by rfl, ?y15c⟩) S0 ?r15c
              case y15c => (intro w hSw; clear hSw; go_simp; try with_reducible rfl)
              simp only [List.getElem_toArray, List.getElem_cons_succ, List.getElem_cons_zero, Act.put, List.setIfInBounds_toArray, List.set_cons_zero, List.set_cons_succ]
              refine wpAnyH_take (i := 16) (v := ?v16c) rfl (by kernel_rfl) (by kernel_rfl) (by kernel_rfl) (fun _ _ _ h => h) (Or.inl ⟨by rfl, ?y16c⟩) S0 ?r16c
              case y16c => (intro w hSw; clear hSw; go_simp; try with_reducible rfl)
              simp only [List.getElem_toArray, List.getElem_cons_succ, List.getElem_cons_zero, Act.put, List.setIfInBounds_toArray, List.set_cons_zero, List.set_cons_succ]
              refine wpAnyH_take (i := 17) (v := ?v17c) rfl (by kernel_rfl) (by kernel_rfl) (by kernel_rfl) (fun _ _ _ h => h) (Or.inl ⟨by rfl, ?y17c⟩) S0 ?r17c
              case y17c => (intro w hSw; clear hSw; go_simp; try with_reducible rfl)
              simp only [List.getElem_toArray, List.getElem_cons_succ, List.getElem_cons_zero, Act.put, List.setIfInBounds_toArray, List.set_cons_zero, List.set_cons_succ]
              refine wpAnyH_take (i := 18) (v := ?v18c) rfl (by kernel_rfl) (by kernel_rfl) (by kernel_rfl) (fun _ _ _ h => h) (Or.inl ⟨by rfl, ?y18c⟩) S0 ?r18c
              case y18c => (intro w hSw; obtain ⟨hs1, hs2, hs3, hs4, hs5⟩ := hSw; go_simp; try with_reducible rfl)
              simp only [List.getElem_toArray, List.getElem_cons_succ, List.getElem_cons_zero, Act.put, List.setIfInBounds_toArray, List.set_cons_zero, List.set_cons_succ]
              refine wpAnyH_take (i := 19) (v := ?v19c) rfl (by kernel_rfl) (by kernel_rfl) (by kernel_rfl) (fun _ _ _ h => h) (Or.inl ⟨by rfl, ?y19c⟩) S0 ?r19c
              case y19c => (intro w hSw; clear hSw; go_simp; try with_reducible rfl)
              simp only [List.getElem_toArray, List.getElem_cons_succ, List.getElem_cons_zero, Act.put, List.setIfInBounds_toArray, List.set_cons_zero, List.set_cons_succ]
              refine wpAnyH_take (i := 20) (v := ?v20c) rfl (by kernel_rfl) (by kernel_rfl) (by kernel_rfl) (fun _ _ _ h => h) (Or.inl ⟨by rfl, ?y20c⟩) S0 ?r20c
              case y20c => (intro w hSw; clear hSw; go_simp; try with_reducible rfl)
              simp only [List.getElem_toArray, List.getElem_cons_succ, List.getElem_cons_zero, Act.put, List.setIfInBounds_toArray, List.set_cons_zero, List.set_cons_succ]
              refine wpAnyH_take (i := 22) (v := ?v22c) rfl (by kernel_rfl) (by kernel_rfl) (by kernel_rfl) (fun _ _ _ h => h) (Or.inl ⟨by rfl, ?y22c⟩) S0 ?r22c
              case y22c => (intro w hSw; clear hSw; go_simp; try with_reducible rfl)
              simp only [List.getElem_toArray, List.getElem_cons_succ, List.getElem_cons_zero, Act.put, List.setIfInBounds_toArray, List.set_cons_zero, List.set_cons_succ]
              refine wpAnyH_take (i := 23) (v := ?v23c) rfl (by kernel_rfl) (by kernel_rfl) (by kernel_rfl) (fun _ _ _ h => h) (Or.inl ⟨by rfl, ?y23c⟩) S0 ?r23c
              case y23c => (intro w hSw; clear hSw; go_simp; try with_reducible rfl)
              simp only [List.getElem_toArray, List.getElem_cons_succ, List.getElem_cons_zero, Act.put, List.setIfInBounds_toArray, List.set_cons_zero, List.set_cons_succ]
              refine wpAnyH_take (i := 24) (v := ?v24c) rfl (by kernel_rfl) (by kernel_rfl) (by kernel_rfl) (fun _ _ _ h => h) (Or.inl ⟨by rfl, ?y24c⟩) S0 ?r24c
              case y24c => (intro w hSw; obtain ⟨hs1, hs2, hs3, hs4, hs5⟩ := hSw; go_simp; try with_reducible rfl)
              simp only [List.getElem_toArray, List.getElem_cons_succ, List.getElem_cons_zero, Act.put, List.setIfInBounds_toArray, List.set_cons_zero, List.set_cons_succ]
              refine wpAnyH_take (i := 26) (v := ?v26c) rfl (by kernel_rfl) (by kernel_rfl) (by kernel_rfl) (fun _ _ _ h => h) (Or.inl ⟨by rfl, ?y26c⟩) S0 ?r26c
              case y26c => (intro w hSw; clear hSw; go_simp; try with_reducible rfl)
              simp only [List.getElem_toArray, List.getElem_cons_succ, List.getElem_cons_zero, Act.put, List.setIfInBounds_toArray, List.set_cons_zero, List.set_cons_succ]
              refine wpAnyH_take (i := 27) (v := ?v27c) rfl (by kernel_rfl) (by kernel_rfl) (by kernel_rfl) (fun _ _ _ h => h) (Or.inl ⟨by rfl, ?y27c⟩) S0 ?r27c
              case y27c => (intro w hSw; clear hSw; go_simp; try with_reducible rfl)
              simp only [List.getElem_toArray, List.getElem_cons_succ, List.getElem_cons_zero, Act.put, List.setIfInBounds_toArray, List.set_cons_zero, List.set_cons_succ]
              refine wpAnyH_take (i := 28) (v := ?v28c) rfl (by kernel_rfl) (by kernel_rfl) (by kernel_rfl) (fun _ _ _ h => h) (Or.inl ⟨by rfl, ?y28c⟩) S0 ?r28c
              case y28c => (intro w hSw; obtain ⟨hs1, hs2, hs3, hs4, hs5⟩ := hSw; go_simp; try with_reducible rfl)
              simp only [List.getElem_toArray, List.getElem_cons_succ, List.getElem_cons_zero, Act.put, List.setIfInBounds_toArray, List.set_cons_zero, List.set_cons_succ]
              refine wpAnyH_ready (rs := [3]) (by kernel_rfl) (by simp) ?_
              refine AllReadyH.cons rfl (fun K hK => ?_) AllReadyH.nil
              simp only [List.getElem_toArray, List.getElem_cons_succ, List.getElem_cons_zero]
              go_simp
              refine (rturned_6 _ _ HX4.out).mono ?_
              rintro e' wz1 ⟨rfl, q, hq⟩
              have S1 : wz1.cell? ⟨gv, 7, none⟩ = some (.int .u32 (gt v 7 : Nat)) ∧ wz1.cell? ⟨gv, 5, none⟩ = some (.int .u32 (gt v 5 : Nat)) ∧ wz1.cell? ⟨gv, 6, none⟩ = some (.int .u32 (gt v 6 : Nat)) ∧ wz1.cell? ⟨gk, k, none⟩ = some (.int .u32 (ck : Nat)) ∧ wz1.cell? ⟨gw, k, none⟩ = some (.int .u32 (wk : Nat)) := by rw [hq]; exact S0
              replace HR4 := Lib.hid (show RB w wz1 gk gw s ws from hq ▸ HR4.out.drewN q)
              replace HV4 := Lib.hid (show wz1.rowIs gv 92 8 (wordRow .u32 v) from hq ▸ rowIs_drewN HV4.out q)
              clear hq
              refine hK.out _ _ S1 (fun _ => ?_)
              clear hK K
              try simp only [List.getElem_toArray, List.getElem_cons_succ, List.getElem_cons_zero, Act.put, List.setIfInBounds_toArray, List.set_cons_zero, List.set_cons_succ]
              refine wpAnyH_ready (rs := [5]) (by kernel_rfl) (by simp) ?_
              refine AllReadyH.cons rfl (fun K hK => ?_) AllReadyH.nil
              simp only [List.getElem_toArray, List.getElem_cons_succ, List.getElem_cons_zero]
              go_simp
              refine (rturned_11 _ _ HX4.out).mono ?_
              rintro e' wz2 ⟨rfl, q, hq⟩
              have S2 : wz2.cell? ⟨gv, 7, none⟩ = some (.int .u32 (gt v 7 : Nat)) ∧ wz2.cell? ⟨gv, 5, none⟩ = some (.int .u32 (gt v 5 : Nat)) ∧ wz2.cell? ⟨gv, 6, none⟩ = some (.int .u32 (gt v 6 : Nat)) ∧ wz2.cell? ⟨gk, k, none⟩ = some (.int .u32 (ck : Nat)) ∧ wz2.cell? ⟨gw, k, none⟩ = some (.int .u32 (wk : Nat)) := by rw [hq]; exact S1
              replace HR4 := Lib.hid (show RB w wz2 gk gw s ws from hq ▸ HR4.out.drewN q)
              replace HV4 := Lib.hid (show wz2.rowIs gv 92 8 (wordRow .u32 v) from hq ▸ rowIs_drewN HV4.out q)
              clear hq
              refine hK.out _ _ S2 (fun _ => ?_)
              clear hK K
              try simp only [List.getElem_toArray, List.getElem_cons_succ, List.getElem_cons_zero, Act.put, List.setIfInBounds_toArray, List.set_cons_zero, List.set_cons_succ]
              refine wpAnyH_take (i := 6) (v := ?v6c) rfl (by kernel_rfl) (by kernel_rfl) (by kernel_rfl) (fun _ _ _ h => h) (Or.inl ⟨by rfl, ?y6c⟩) S2 ?r6c
              case y6c => (intro w hSw; clear hSw; go_simp; try with_reducible rfl)
              simp only [List.getElem_toArray, List.getElem_cons_succ, List.getElem_cons_zero, Act.put, List.setIfInBounds_toArray, List.set_cons_zero, List.set_cons_succ]
              refine wpAnyH_ready (rs := [8]) (by kernel_rfl) (by simp) ?_
              refine AllReadyH.cons rfl (fun K hK => ?_) AllReadyH.nil
              simp only [List.getElem_toArray, List.getElem_cons_succ, List.getElem_cons_zero]
              go_simp
              refine (rturned_25 _ _ HX4.out).mono ?_
              rintro e' wz3 ⟨rfl, q, hq⟩
              have S3 : wz3.cell? ⟨gv, 7, none⟩ = some (.int .u32 (gt v 7 : Nat)) ∧ wz3.cell? ⟨gv, 5, none⟩ = some (.int .u32 (gt v 5 : Nat)) ∧ wz3.cell? ⟨gv, 6, none⟩ = some (.int .u32 (gt v 6 : Nat)) ∧ wz3.cell? ⟨gk, k, none⟩ = some (.int .u32 (ck : Nat)) ∧ wz3.cell? ⟨gw, k, none⟩ = some (.int .u32 (wk : Nat)) := by rw [hq]; exact S2
              replace HR4 := Lib.hid (show RB w wz3 gk gw s ws from hq ▸ HR4.out.drewN q)
              replace HV4 := Lib.hid (show wz3.rowIs gv 92 8 (wordRow .u32 v) from hq ▸ rowIs_drewN HV4.out q)
              clear hq
              refine hK.out _ _ S3 (fun _ => ?_)
              clear hK K
              try simp only [List.getElem_toArray, List.getElem_cons_succ, List.getElem_cons_zero, Act.put, List.setIfInBounds_toArray, List.set_cons_zero, List.set_cons_succ]
              refine wpAnyH_take (i := 9) (v := ?v9c) rfl (by kernel_rfl) (by kernel_rfl) (by kernel_rfl) (fun _ _ _ h => h) (Or.inl ⟨by rfl, ?y9c⟩) S3 ?r9c
              case y9c => (intro w hSw; clear hSw; go_simp; try with_reducible rfl)
              simp only [List.getElem_toArray, List.getElem_cons_succ, List.getElem_cons_zero, Act.put, List.setIfInBounds_toArray, List.set_cons_zero, List.set_cons_succ]
              refine wpAnyH_take (i := 10) (v := ?v10c) rfl (by kernel_rfl) (by kernel_rfl) (by kernel_rfl) (fun _ _ _ h => h) (Or.inl ⟨by rfl, ?y10c⟩) S3 ?r10c
              case y10c => (intro w hSw; clear hSw; go_simp; try with_reducible rfl)
              simp only [List.getElem_toArray, List.getElem_cons_succ, List.getElem_cons_zero, Act.put, List.setIfInBounds_toArray, List.set_cons_zero, List.set_cons_succ]
              refine wpAnyH_take (i := 21) (v := ?v21c) rfl (by kernel_rfl) (by kernel_rfl) (by kernel_rfl) (fun _ _ _ h => h) (Or.inl ⟨by rfl, ?y21c⟩) S3 ?r21c
              case y21c => (intro w hSw; clear hSw; go_simp; try with_reducible rfl)
              simp only [List.getElem_toArray, List.getElem_cons_succ, List.getElem_cons_zero, Act.put, List.setIfInBounds_toArray, List.set_cons_zero, List.set_cons_succ]
              refine wpAnyH_take (i := 25) (v := ?v25c) rfl (by kernel_rfl) (by kernel_rfl) (by kernel_rfl) (fun _ _ _ h => h) (Or.inl ⟨by rfl, ?y25c⟩) S3 ?r25c
              case y25c => (intro w hSw; clear hSw; go_simp; try with_reducible rfl)
              simp only [List.getElem_toArray, List.getElem_cons_succ, List.getElem_cons_zero, Act.put, List.setIfInBounds_toArray, List.set_cons_zero, List.set_cons_succ]
              refine wpAnyH_take (i := 29) (v := ?v29c) rfl (by kernel_rfl) (by kernel_rfl) (by kernel_rfl) (fun _ _ _ h => h) (Or.inl ⟨by rfl, ?y29c⟩) S3 ?r29c
              case y29c => (intro w hSw; clear hSw; go_simp; try with_reducible rfl)
              simp only [List.getElem_toArray, List.getElem_cons_succ, List.getElem_cons_zero, Act.put, List.setIfInBounds_toArray, List.set_cons_zero, List.set_cons_succ]
              refine wpAnyH_take (i := 30) (v := ?v30c) rfl (by kernel_rfl) (by kernel_rfl) (by kernel_rfl) (fun _ _ _ h => h) (Or.inl ⟨by rfl, ?y30c⟩) S3 ?r30c
              case y30c => (intro w hSw; clear hSw; go_simp; try with_reducible rfl)
              simp only [List.getElem_toArray, List.getElem_cons_succ, List.getElem_cons_zero, Act.put, List.setIfInBounds_toArray, List.set_cons_zero, List.set_cons_succ]
              refine wpAnyH_done (by kernel_rfl) ?_ _
              dsimp only
              clear S0 S1 S2 S3
              go_wp2
              refine region_calm ?_
              refine wp_region_any (by kernel_rfl) ?_
              change wpAny _ _ _ _ _ _ _ (World.drew _)
              replace HR4 := Lib.hid HR4.out.drew
              replace HV4 := Lib.hid HV4.out.drew
              generalize wz3.drew = wd2 at *
              have S0 : wd2.cell? ⟨gv, 1, none⟩ = some (.int .u32 (gt v 1 : Nat)) ∧ wd2.cell? ⟨gv, 2, none⟩ = some (.int .u32 (gt v 2 : Nat)) := ⟨HV4.out.cell (i := 1) (by omega), HV4.out.cell (i := 2) (by omega)⟩
              refine wpAny_of_held (S := fun w' => w'.cell? ⟨gv, 1, none⟩ = some (.int .u32 (gt v 1 : Nat)) ∧ w'.cell? ⟨gv, 2, none⟩ = some (.int .u32 (gt v 2 : Nat))) _ _ _ _ ?_
              refine wpAnyH_take (i := 0) (v := ?v0d) rfl (by kernel_rfl) (by kernel_rfl) (by kernel_rfl) (fun _ _ _ h => h) (Or.inl ⟨by rfl, ?y0d⟩) S0 ?r0d
              case y0d => (intro w hSw; clear hSw; go_simp; try with_reducible rfl)
              simp only [List.getElem_toArray, List.getElem_cons_succ, List.getElem_cons_zero, Act.put, List.setIfInBounds_toArray, List.set_cons_zero, List.set_cons_succ]
              refine wpAnyH_take (i := 2) (v := ?v2d) rfl (by kernel_rfl) (by kernel_rfl) (by kernel_rfl) (fun _ _ _ h => h) (Or.inl ⟨by rfl, ?y2d⟩) S0 ?r2d
              case y2d => (intro w hSw; clear hSw; go_simp; try with_reducible rfl)
              simp only [List.getElem_toArray, List.getElem_cons_succ, List.getElem_cons_zero, Act.put, List.setIfInBounds_toArray, List.set_cons_zero, List.set_cons_succ]
              refine wpAnyH_take (i := 5) (v := ?v5d) rfl (by kernel_rfl) (by kernel_rfl) (by kernel_rfl) (fun _ _ _ h => h) (Or.inl ⟨by rfl, ?y5d⟩) S0 ?r5d
              case y5d => (intro w hSw; clear hSw; go_simp; try with_reducible rfl)
              simp only [List.getElem_toArray, List.getElem_cons_succ, List.getElem_cons_zero, Act.put, List.setIfInBounds_toArray, List.set_cons_zero, List.set_cons_succ]
              refine wpAnyH_take (i := 8) (v := ?v8d) rfl (by kernel_rfl) (by kernel_rfl) (by kernel_rfl) (fun _ _ _ h => h) (Or.inl ⟨by rfl, ?y8d⟩) S0 ?r8d
              case y8d => (intro w hSw; clear hSw; go_simp; try with_reducible rfl)
              simp only [List.getElem_toArray, List.getElem_cons_succ, List.getElem_cons_zero, Act.put, List.setIfInBounds_toArray, List.set_cons_zero, List.set_cons_succ]
              refine wpAnyH_take (i := 9) (v := ?v9d) rfl (by kernel_rfl) (by kernel_rfl) (by kernel_rfl) (fun _ _ _ h => h) (Or.inl ⟨by rfl, ?y9d⟩) S0 ?r9d
              case y9d => (intro w hSw; clear hSw; go_simp; try with_reducible rfl)
              simp only [List.getElem_toArray, List.getElem_cons_succ, List.getElem_cons_zero, Act.put, List.setIfInBounds_toArray, List.set_cons_zero, List.set_cons_succ]
              refine wpAnyH_take (i := 10) (v := ?v10d) rfl (by kernel_rfl) (by kernel_rfl) (by kernel_rfl) (fun _ _ _ h => h) (Or.inl ⟨by rfl, ?y10d⟩) S0 ?r10d
              case y10d => (intro w hSw; obtain ⟨hs1, hs2⟩ := hSw; go_simp; try with_reducible rfl)
              simp only [List.getElem_toArray, List.getElem_cons_succ, List.getElem_cons_zero, Act.put, List.setIfInBounds_toArray, List.set_cons_zero, List.set_cons_succ]
              refine wpAnyH_take (i := 11) (v := ?v11d) rfl (by kernel_rfl) (by kernel_rfl) (by kernel_rfl) (fun _ _ _ h => h) (Or.inl ⟨by rfl, ?y11d⟩) S0 ?r11d
              case y11d => (intro w hSw; clear hSw; go_simp; try with_reducible rfl)
              simp only [List.getElem_toArray, List.getElem_cons_succ, List.getElem_cons_zero, Act.put, List.setIfInBounds_toArray, List.set_cons_zero, List.set_cons_succ]
              refine wpAnyH_take (i := 12) (v := ?v12d) rfl (by kernel_rfl) (by kernel_rfl) (by kernel_rfl) (fun _ _ _ h => h) (Or.inl ⟨by rfl, ?y12d⟩) S0 ?r12d
              case y12d => (intro w hSw; clear hSw; go_simp; try with_reducible rfl)
              simp only [List.getElem_toArray, List.getElem_cons_succ, List.getElem_cons_zero, Act.put, List.setIfInBounds_toArray, List.set_cons_zero, List.set_cons_succ]
              refine wpAnyH_take (i := 13) (v := ?v13d) rfl (by kernel_rfl) (by kernel_rfl) (by kernel_rfl) (fun _ _ _ h => h) (Or.inl ⟨by rfl, ?y13d⟩) S0 ?r13d
              case y13d => (intro w hSw; clear hSw; go_simp; try with_reducible rfl)
              simp only [List.getElem_toArray, List.getElem_cons_succ, List.getElem_cons_zero, Act.put, List.setIfInBounds_toArray, List.set_cons_zero, List.set_cons_succ]
              refine wpAnyH_take (i := 14) (v := ?v14d) rfl (by kernel_rfl) (by kernel_rfl) (by kernel_rfl) (fun _ _ _ h => h) (Or.inl ⟨by rfl, ?y14d⟩) S0 ?r14d
              case y14d => (intro w hSw; obtain ⟨hs1, hs2⟩ := hSw; go_simp; try with_reducible rfl)
              simp only [List.getElem_toArray, List.getElem_cons_succ, List.getElem_cons_zero, Act.put, List.setIfInBounds_toArray, List.set_cons_zero, List.set_cons_succ]
              refine wpAnyH_take (i := 15) (v := ?v15d) rfl (by kernel_rfl) (by kernel_rfl) (by kernel_rfl) (fun _ _ _ h => h) (Or.inl ⟨by rfl, ?y15d⟩) S0 ?r15d
              case y15d => (intro w hSw; clear hSw; go_simp; try with_reducible rfl)
              simp only [List.getElem_toArray, List.getElem_cons_succ, List.getElem_cons_zero, Act.put, List.setIfInBounds_toArray, List.set_cons_zero, List.set_cons_succ]
              refine wpAnyH_take (i := 16) (v := ?v16d) rfl (by kernel_rfl) (by kernel_rfl) (by kernel_rfl) (fun _ _ _ h => h) (Or.inl ⟨by rfl, ?y16d⟩) S0 ?r16d
              case y16d => (intro w hSw; clear hSw; go_simp; try with_reducible rfl)
              simp only [List.getElem_toArray, List.getElem_cons_succ, List.getElem_cons_zero, Act.put, List.setIfInBounds_toArray, List.set_cons_zero, List.set_cons_succ]
              refine wpAnyH_take (i := 17) (v := ?v17d) rfl (by kernel_rfl) (by kernel_rfl) (by kernel_rfl) (fun _ _ _ h => h) (Or.inl ⟨by rfl, ?y17d⟩) S0 ?r17d
              case y17d => (intro w hSw; clear hSw; go_simp; try with_reducible rfl)
              simp only [List.getElem_toArray, List.getElem_cons_succ, List.getElem_cons_zero, Act.put, List.setIfInBounds_toArray, List.set_cons_zero, List.set_cons_succ]
              refine wpAnyH_take (i := 18) (v := ?v18d) rfl (by kernel_rfl) (by kernel_rfl) (by kernel_rfl) (fun _ _ _ h => h) (Or.inl ⟨by rfl, ?y18d⟩) S0 ?r18d
              case y18d => (intro w hSw; obtain ⟨hs1, hs2⟩ := hSw; go_simp; try with_reducible rfl)
              simp only [List.getElem_toArray, List.getElem_cons_succ, List.getElem_cons_zero, Act.put, List.setIfInBounds_toArray, List.set_cons_zero, List.set_cons_succ]
              refine wpAnyH_take (i := 19) (v := ?v19d) rfl (by kernel_rfl) (by kernel_rfl) (by kernel_rfl) (fun _ _ _ h => h) (Or.inl ⟨by rfl, ?y19d⟩) S0 ?r19d
              case y19d => (intro w hSw; clear hSw; go_simp; try with_reducible rfl)
              simp only [List.getElem_toArray, List.getElem_cons_succ, List.getElem_cons_zero, Act.put, List.setIfInBounds_toArray, List.set_cons_zero, List.set_cons_succ]
              refine wpAnyH_take (i := 20) (v := ?v20d) rfl (by kernel_rfl) (by kernel_rfl) (by kernel_rfl) (fun _ _ _ h => h) (Or.inl ⟨by rfl, ?y20d⟩) S0 ?r20d
              case y20d => (intro w hSw; obtain ⟨hs1, hs2⟩ := hSw; go_simp; try with_reducible rfl)
              simp only [List.getElem_toArray, List.getElem_cons_succ, List.getElem_cons_zero, Act.put, List.setIfInBounds_toArray, List.set_cons_zero, List.set_cons_succ]
              refine wpAnyH_take (i := 21) (v := ?v21d) rfl (by kernel_rfl) (by kernel_rfl) (by kernel_rfl) (fun _ _ _ h => h) (Or.inl ⟨by rfl, ?y21d⟩) S0 ?r21d
              case y21d => (intro w hSw; clear hSw; go_simp; try with_reducible rfl)
              simp only [List.getElem_toArray, List.getElem_cons_succ, List.getElem_cons_zero, Act.put, List.setIfInBounds_toArray, List.set_cons_zero, List.set_cons_succ]
              refine wpAnyH_take (i := 22) (v := ?v22d) rfl (by kernel_rfl) (by kernel_rfl) (by kernel_rfl) (fun _ _ _ h => h) (Or.inl ⟨by rfl, ?y22d⟩) S0 ?r22d
              case y22d => (intro w hSw; clear hSw; go_simp; try with_reducible rfl)
              simp only [List.getElem_toArray, List.getElem_cons_succ, List.getElem_cons_zero, Act.put, List.setIfInBounds_toArray, List.set_cons_zero, List.set_cons_succ]
              refine wpAnyH_ready (rs := [1]) (by kernel_rfl) (by simp) ?_
              refine AllReadyH.cons rfl (fun K hK => ?_) AllReadyH.nil
              simp only [List.getElem_toArray, List.getElem_cons_succ, List.getElem_cons_zero]
              go_simp
              refine (rturned_2 _ _ HX0.out).mono ?_
              rintro e' wz1 ⟨rfl, q, hq⟩
              have S1 : wz1.cell? ⟨gv, 1, none⟩ = some (.int .u32 (gt v 1 : Nat)) ∧ wz1.cell? ⟨gv, 2, none⟩ = some (.int .u32 (gt v 2 : Nat)) := by rw [hq]; exact S0
              replace HR4 := Lib.hid (show RB w wz1 gk gw s ws from hq ▸ HR4.out.drewN q)
              replace HV4 := Lib.hid (show wz1.rowIs gv 92 8 (wordRow .u32 v) from hq ▸ rowIs_drewN HV4.out q)
              clear hq
              refine hK.out _ _ S1 (fun _ => ?_)
              clear hK K
              try simp only [List.getElem_toArray, List.getElem_cons_succ, List.getElem_cons_zero, Act.put, List.setIfInBounds_toArray, List.set_cons_zero, List.set_cons_succ]
              refine wpAnyH_ready (rs := [3]) (by kernel_rfl) (by simp) ?_
              refine AllReadyH.cons rfl (fun K hK => ?_) AllReadyH.nil
              simp only [List.getElem_toArray, List.getElem_cons_succ, List.getElem_cons_zero]
              go_simp
              refine (rturned_13 _ _ HX0.out).mono ?_
              rintro e' wz2 ⟨rfl, q, hq⟩
              have S2 : wz2.cell? ⟨gv, 1, none⟩ = some (.int .u32 (gt v 1 : Nat)) ∧ wz2.cell? ⟨gv, 2, none⟩ = some (.int .u32 (gt v 2 : Nat)) := by rw [hq]; exact S1
              replace HR4 := Lib.hid (show RB w wz2 gk gw s ws from hq ▸ HR4.out.drewN q)
              replace HV4 := Lib.hid (show wz2.rowIs gv 92 8 (wordRow .u32 v) from hq ▸ rowIs_drewN HV4.out q)
              clear hq
              refine hK.out _ _ S2 (fun _ => ?_)
              clear hK K
              try simp only [List.getElem_toArray, List.getElem_cons_succ, List.getElem_cons_zero, Act.put, List.setIfInBounds_toArray, List.set_cons_zero, List.set_cons_succ]
              refine wpAnyH_take (i := 4) (v := ?v4d) rfl (by kernel_rfl) (by kernel_rfl) (by kernel_rfl) (fun _ _ _ h => h) (Or.inl ⟨by rfl, ?y4d⟩) S2 ?r4d
              case y4d => (intro w hSw; clear hSw; go_simp; try with_reducible rfl)
              simp only [List.getElem_toArray, List.getElem_cons_succ, List.getElem_cons_zero, Act.put, List.setIfInBounds_toArray, List.set_cons_zero, List.set_cons_succ]
              refine wpAnyH_ready (rs := [6]) (by kernel_rfl) (by simp) ?_
              refine AllReadyH.cons rfl (fun K hK => ?_) AllReadyH.nil
              simp only [List.getElem_toArray, List.getElem_cons_succ, List.getElem_cons_zero]
              go_simp
              refine (rturned_22 _ _ HX0.out).mono ?_
              rintro e' wz3 ⟨rfl, q, hq⟩
              have S3 : wz3.cell? ⟨gv, 1, none⟩ = some (.int .u32 (gt v 1 : Nat)) ∧ wz3.cell? ⟨gv, 2, none⟩ = some (.int .u32 (gt v 2 : Nat)) := by rw [hq]; exact S2
              replace HR4 := Lib.hid (show RB w wz3 gk gw s ws from hq ▸ HR4.out.drewN q)
              replace HV4 := Lib.hid (show wz3.rowIs gv 92 8 (wordRow .u32 v) from hq ▸ rowIs_drewN HV4.out q)
              clear hq
              refine hK.out _ _ S3 (fun _ => ?_)
              clear hK K
              try simp only [List.getElem_toArray, List.getElem_cons_succ, List.getElem_cons_zero, Act.put, List.setIfInBounds_toArray, List.set_cons_zero, List.set_cons_succ]
              refine wpAnyH_take (i := 7) (v := ?v7d) rfl (by kernel_rfl) (by kernel_rfl) (by kernel_rfl) (fun _ _ _ h => h) (Or.inl ⟨by rfl, ?y7d⟩) S3 ?r7d
              case y7d => (intro w hSw; clear hSw; go_simp; try with_reducible rfl)
              simp only [List.getElem_toArray, List.getElem_cons_succ, List.getElem_cons_zero, Act.put, List.setIfInBounds_toArray, List.set_cons_zero, List.set_cons_succ]
              refine wpAnyH_take (i := 23) (v := ?v23d) rfl (by kernel_rfl) (by kernel_rfl) (by kernel_rfl) (fun _ _ _ h => h) (Or.inl ⟨by rfl, ?y23d⟩) S3 ?r23d
              case y23d => (intro w hSw; clear hSw; go_simp; try with_reducible rfl)
              simp only [List.getElem_toArray, List.getElem_cons_succ, List.getElem_cons_zero, Act.put, List.setIfInBounds_toArray, List.set_cons_zero, List.set_cons_succ]
              refine wpAnyH_take (i := 24) (v := ?v24d) rfl (by kernel_rfl) (by kernel_rfl) (by kernel_rfl) (fun _ _ _ h => h) (Or.inl ⟨by rfl, ?y24d⟩) S3 ?r24d
              case y24d => (intro w hSw; clear hSw; go_simp; try with_reducible rfl)
              simp only [List.getElem_toArray, List.getElem_cons_succ, List.getElem_cons_zero, Act.put, List.setIfInBounds_toArray, List.set_cons_zero, List.set_cons_succ]
              refine wpAnyH_done (by kernel_rfl) ?_ _
              dsimp only
              clear S0 S1 S2 S3
              obtain ⟨T, HTe⟩ : ∃ T, Hid (Unit → tOf v ck wk = T) := ⟨_, Lib.hid fun _ => rfl⟩
              rw [HTe.out ()]
              have d0 : wz3.cell? ⟨gv, 0, none⟩ = some (.int .u32 (gt v 0 : Nat)) := HV4.out.cell (i := 0) (by omega)
              have d1 : wz3.cell? ⟨gv, 1, none⟩ = some (.int .u32 (gt v 1 : Nat)) := HV4.out.cell (i := 1) (by omega)
              have d2 : wz3.cell? ⟨gv, 2, none⟩ = some (.int .u32 (gt v 2 : Nat)) := HV4.out.cell (i := 2) (by omega)
              have d3 : wz3.cell? ⟨gv, 3, none⟩ = some (.int .u32 (gt v 3 : Nat)) := HV4.out.cell (i := 3) (by omega)
              have d4 : wz3.cell? ⟨gv, 4, none⟩ = some (.int .u32 (gt v 4 : Nat)) := HV4.out.cell (i := 4) (by omega)
              have d5 : wz3.cell? ⟨gv, 5, none⟩ = some (.int .u32 (gt v 5 : Nat)) := HV4.out.cell (i := 5) (by omega)
              have d6 : wz3.cell? ⟨gv, 6, none⟩ = some (.int .u32 (gt v 6 : Nat)) := HV4.out.cell (i := 6) (by omega)
              have d7 : wz3.cell? ⟨gv, 7, none⟩ = some (.int .u32 (gt v 7 : Nat)) := HV4.out.cell (i := 7) (by omega)
              have HVr := Lib.hid (heap_words HV4.out HOV.out.1)
              have HIc : Hid ((Tryd.prog.info? 92).map (·.size) = some (#[Value.int .u32 ((((T : Nat) : Int) + ((uOf v : Nat) : Int)) % 4294967296), .int .u32 ((gt v 0 : Nat) : Int), .int .u32 ((gt v 1 : Nat) : Int), .int .u32 ((gt v 2 : Nat) : Int), .int .u32 ((((gt v 3 : Nat) : Int) + ((T : Nat) : Int)) % 4294967296), .int .u32 ((gt v 4 : Nat) : Int), .int .u32 ((gt v 5 : Nat) : Int), .int .u32 ((gt v 6 : Nat) : Int)] : Array Value).size) := Lib.hid (by show _ = some 8; kernel_rfl)
              have HZc : Hid ((numsOf .u32 v).size = (#[Value.int .u32 ((((T : Nat) : Int) + ((uOf v : Nat) : Int)) % 4294967296), .int .u32 ((gt v 0 : Nat) : Int), .int .u32 ((gt v 1 : Nat) : Int), .int .u32 ((gt v 2 : Nat) : Int), .int .u32 ((((gt v 3 : Nat) : Int) + ((T : Nat) : Int)) % 4294967296), .int .u32 ((gt v 4 : Nat) : Int), .int .u32 ((gt v 5 : Nat) : Int), .int .u32 ((gt v 6 : Nat) : Int)] : Array Value).size) := Lib.hid (by rw [numsOf_size, HOV.out.1]; rfl)
              have HON : Hid ((#[Value.int .u32 ((((T : Nat) : Int) + ((uOf v : Nat) : Int)) % 4294967296), .int .u32 ((gt v 0 : Nat) : Int), .int .u32 ((gt v 1 : Nat) : Int), .int .u32 ((gt v 2 : Nat) : Int), .int .u32 ((((gt v 3 : Nat) : Int) + ((T : Nat) : Int)) % 4294967296), .int .u32 ((gt v 4 : Nat) : Int), .int .u32 ((gt v 5 : Nat) : Int), .int .u32 ((gt v 6 : Nat) : Int)] : Array Value).all (·.oneCell') = true) := Lib.hid (by simp [Value.oneCell'])
              have HCS : Hid (∀ i, i < 8 → (#[Value.int .u32 ((((T : Nat) : Int) + ((uOf v : Nat) : Int)) % 4294967296), .int .u32 ((gt v 0 : Nat) : Int), .int .u32 ((gt v 1 : Nat) : Int), .int .u32 ((gt v 2 : Nat) : Int), .int .u32 ((((gt v 3 : Nat) : Int) + ((T : Nat) : Int)) % 4294967296), .int .u32 ((gt v 4 : Nat) : Int), .int .u32 ((gt v 5 : Nat) : Int), .int .u32 ((gt v 6 : Nat) : Int)] : Array Value)[i]? = some (wordRow .u32 (round v ck wk) i)) := Lib.hid fun i hi => by
                rw [add_int, add_int, ← HTe.out ()]
                exact eight_round v ck wk i hi
              go_wp2_with (refine wpList_store_row rfl 92 (.tmp 11) (.tmp 181) rfl gv (#[Value.int .u32 ((((T : Nat) : Int) + ((uOf v : Nat) : Int)) % 4294967296), .int .u32 ((gt v 0 : Nat) : Int), .int .u32 ((gt v 1 : Nat) : Int), .int .u32 ((gt v 2 : Nat) : Int), .int .u32 ((((gt v 3 : Nat) : Int) + ((T : Nat) : Int)) % 4294967296), .int .u32 ((gt v 4 : Nat) : Int), .int .u32 ((gt v 5 : Nat) : Int), .int .u32 ((gt v 6 : Nat) : Int)]) rfl rfl 92 (numsOf .u32 v) HVr.out HIc.out HZc.out HON.out ?_)
              have HR5 := Lib.hid (HR4.out.setRow hs1 hkw hgv (#[Value.int .u32 ((((T : Nat) : Int) + ((uOf v : Nat) : Int)) % 4294967296), .int .u32 ((gt v 0 : Nat) : Int), .int .u32 ((gt v 1 : Nat) : Int), .int .u32 ((gt v 2 : Nat) : Int), .int .u32 ((((gt v 3 : Nat) : Int) + ((T : Nat) : Int)) % 4294967296), .int .u32 ((gt v 4 : Nat) : Int), .int .u32 ((gt v 5 : Nat) : Int), .int .u32 ((gt v 6 : Nat) : Int)]))
              have HV5 : Hid ((wz3.setRow gv (#[Value.int .u32 ((((T : Nat) : Int) + ((uOf v : Nat) : Int)) % 4294967296), .int .u32 ((gt v 0 : Nat) : Int), .int .u32 ((gt v 1 : Nat) : Int), .int .u32 ((gt v 2 : Nat) : Int), .int .u32 ((((gt v 3 : Nat) : Int) + ((T : Nat) : Int)) % 4294967296), .int .u32 ((gt v 4 : Nat) : Int), .int .u32 ((gt v 5 : Nat) : Int), .int .u32 ((gt v 6 : Nat) : Int)])).rowIs gv 92 8 (wordRow .u32 (round v ck wk))) := Lib.hid ⟨_, setRow_heap _ _ _ _ _ _ HVr.out, rfl, HCS.out⟩
              generalize wz3.setRow gv (#[Value.int .u32 ((((T : Nat) : Int) + ((uOf v : Nat) : Int)) % 4294967296), .int .u32 ((gt v 0 : Nat) : Int), .int .u32 ((gt v 1 : Nat) : Int), .int .u32 ((gt v 2 : Nat) : Int), .int .u32 ((((gt v 3 : Nat) : Int) + ((T : Nat) : Int)) % 4294967296), .int .u32 ((gt v 4 : Nat) : Int), .int .u32 ((gt v 5 : Nat) : Int), .int .u32 ((gt v 6 : Nat) : Int)]) = W5 at *
              go_roundw
              case rel => exact ⟨k + 1, round v ck wk, by omega, by go_num, HNX, HR5, HV5⟩
              case measure => simp [intOf]; omega
            · obtain rfl : k = 64 := by omega
              have hvv : v = v64 := by rw [← HV.out ()]; exact (HVk.out ()).symm
              subst hvv
              rw [show ((64 : Nat) : Int) = 64 from rfl]
              have HOV := Lib.hid hov
              clear hk hk64 hov HVk HR3 HV3
              go_wp2
              go_loopw [17] (fun i W => ∃ k : Nat, k ≤ 8 ∧ i = .int .i64 k ∧ Hid (RB w W gk gw (sumTo s v k) ws) ∧ Hid (W.rowIs gv 92 8 (wordRow .u32 v))) (fun i _ => 8 - (intOf i).toNat)
              case atStart => exact ⟨0, by omega, rfl, Lib.hid (by rw [sumTo_zero HO.out]; exact HR4.out), HV4⟩
              case round =>
                obtain ⟨k, hk, rfl, HR6, HV6⟩ := hrel
                by_cases hk8 : k < 8
                · have c0 : wr.cell? ⟨w.heap.size, k, none⟩ = some (.int .u32 (gt s k : Nat)) := by rw [HR6.out.st.cell hk8]; unfold wordRow; rw [gt_sumTo hk8]
                  have c1 : wr.cell? ⟨gv, k, none⟩ = some (.int .u32 (gt v k : Nat)) := HV6.out.cell hk8
                  have f0 := HR6.out.st.frozen k
                  have hadd := add_int (gt s k) (gt v k)
                  have y8 : (k : Int) < 8 := by omega
                  have HSU := Lib.hid (fun _ : Unit => sumTo_succ (s := s) (v := v) hk8)
                  have HOS := Lib.hid (ok_sumTo (v := v) HO.out k)
                  generalize sumTo s v k = sk at *
                  go_wp2
                  go_region
                  go_wp2
                  go_roundw
                  case rel => exact ⟨k + 1, by omega, by go_num, Lib.hid (by rw [← HSU.out ()]; exact (HR6.out.setSt hs1 hkw HOS.out.1 k _ hk8 rfl rfl).drew), Lib.hid (HV6.out.setOther (by show gv ≠ w.heap.size; omega) _).drew⟩
                  case measure => simp [intOf]; omega
                · obtain rfl : k = 8 := by omega
                  rw [HOUT.out ()] at HR6
                  have hlo : out.length = 8 := by rw [← HOUT.out ()]; exact (ok_sumTo HO.out 8).1
                  have HIo : Hid ((Tryd.prog.info? 92).map (·.size) = some (numsOf .u32 out).size) := Lib.hid (by rw [numsOf_size, hlo]; kernel_rfl)
                  have HZo := Lib.hid (show (numsOf .u32 (tab 8 fun _ => 0)).size = (numsOf .u32 out).size by rw [numsOf_size, numsOf_size, hlo, tab_len])
                  have HSo := Lib.hid (heap_words HR6.out.st hlo)
                  have HRo := Lib.hid (heap_words HR6.out.res (tab_len _ _))
                  go_wp2_with (first | (refine wpList_load_row rfl 92 (.tmp 2) rfl w.heap.size rfl 92 (numsOf .u32 out) (0, 0) _ HSo.out Tryd.underlying92 rfl HIo.out ?_) | (refine wpList_store_row rfl 92 (.tmp 4) (.tmp 195) rfl (w.heap.size + 1) (numsOf .u32 out) rfl rfl 92 (numsOf .u32 (tab 8 fun _ => 0)) HRo.out HIo.out HZo.out (numsOf_one _ _) ?_))
                  refine bodyPost_ret (v := .agg (numsOf .u32 out)) (results_cell_row (p := 4) (ty := 92) (by kernel_rfl) _ _ (w.heap.size + 1) 92 (numsOf .u32 out) (0, 0) _ rfl (setRow_heap _ _ _ _ _ _ HRo.out) Tryd.underlying92 rfl HIo.out) rfl ⟨rfl, below_setRow HR6.out.bel (by omega) _⟩

theorem rblock_any (s b : List Nat) (ad : Addr) (c : Nat) (w : World) (hO : Ok 4294967296 8 s) (hB : Ok 256 64 b) (had : ad.block < w.heap.size) (hc : ∀ j, j < 64 → w.cell? (ad.add j) = some (.int .u8 (gt b j : Nat))) :
    Calls Tryd.prog 66 #[.agg (numsOf .u32 s), .slice (some ad) 64 c] w fun e w' => e = .returned (.agg (numsOf .u32 (change s b))) ∧ Below w.heap.size w w' := by
  refine rblock_to s b ad c w _ _ _ hO hB had hc (Lib.hid fun _ => rfl) (Lib.hid fun _ => rfl) (Lib.hid fun _ => ?_)
  rw [firstTo_all hB]; rfl
end Go.Proofs.YtkplkfokpniflaaDoor.Sha

namespace Go.Proofs.YtkplkfokpniflaaDoor.Sha
set_option linter.all false
open Go.RowKit
attribute [local go_sem ↓] Go.wp_at_zero Go.wp_at_succ

theorem one_rd (w : World) (z : Int) (x : Nat) (hz : z = (x : Int)) (hx : x < 256) {B : Nat} (hB : w.heap.size < B) : Rd (w.alloc (.cells #[.int .u8 z] 5)) B (some ⟨w.heap.size, 0, none⟩) [x] := by
  subst hz
  refine ⟨gt_lt_of_mem (by intro v hv; simp only [List.mem_cons, List.not_mem_nil, or_false] at hv; rw [hv]; exact hx), fun _ => ⟨_, rfl, hB, fun j hj => ?_⟩⟩
  have hj0 : j = 0 := by simp at hj; exact hj
  subst hj0
  show (w.alloc _).cell? ⟨w.heap.size, 0, none⟩ = _
  rw [cell_of_row _ _ 0 _ 5 (0, 0) (heap_alloc_last w _), gt_cons_zero]; rfl
/-- append onto a row of one's own, nil let in -/
theorem wp_append_any {o : Oper} {a : Act} {w : World} {K : Act → World → Prop} {Q : Exit → Act → World → Prop} (s x : Operand)
    (ho : o.op = .call { callee := .builtin .append, args := #[s, x], argTypes := #[22, 22] }) (base n m c B : Nat) (v : Value) (xs ys : List Nat) (ad : Addr)
    (hs : a.eval s = v) (hx : a.eval x = .slice (some ad) m c)
    (hown : w.ownsRow base 5 1 v n (bcells xs)) (hR : Rd w B (some ad) ys) (hm : ys.length = m) (hm0 : 0 < m) (hbd : n + m ≤ 1000000) (hbase : base ≤ w.heap.size)
    (k : ∀ g' cap' w', w'.ownsRow base 5 1 (.slice (some ⟨g', 0, none⟩) (n + m) cap') (n + m) (bcells (xs ++ ys)) → w.grownBy w' v.ownBlock → K (a.put o.dst (.slice (some ⟨g', 0, none⟩) (n + m) cap')) w') :
    Oper.wp Tryd.prog o a w K Q := by
  obtain ⟨i, hi, hz, hsz, hby⟩ := byteInfo
  have hml : n + m ≤ maxLen := by unfold maxLen; omega
  obtain ⟨v', w', hrun, h1, h2, h3, h4⟩ := run_append_own_at (P := Tryd.prog) w base 22 o.type 5 i (.int .u8 0) 1 1 Tryd.underlying22 hi hz hsz hby rfl (by omega) _ n (bcells xs) hown ad m c (bcells ys) (by rw [bcells_len]; omega)
    (news_of_rd hR) (bcells_one ys) hml (by omega) hbase
  rw [← bcells_append] at h1
  have hne : v' ≠ .slice none 0 0 := fun e => by have := (h3.1 e).2; omega
  rcases h1.2 with ⟨e, _⟩ | ⟨g', cap', cur, e, _⟩
  · exact absurd e hne
  · subst e
    unfold Oper.wp execOp
    simp only [ho, resolve, invoke, builtin, Sem.run_bind, Sem.run_pure, Result.andThen_ok, List.map_toArray, List.map_cons, List.map_nil, hs, hx, hrun]
    exact k g' cap' w' h1 h2
theorem below_own {B base n : Nat} {w0 w w' : World} {v : Value} {xs : List Value} (h : Below B w0 w) (hown : w.ownsRow base 5 1 v n xs) (hb : B ≤ base) (hg : w.grownBy w' v.ownBlock) (hB : B ≤ w.heap.size) : Below B w0 w' :=
  ⟨hg.os.trans h.os, hg.tape.trans h.tape, hg.output.trans h.output, Nat.le_trans h.size hg.size, fun i hi => (hg.block i (by omega) (by
    intro e
    rcases hown.2 with ⟨e1, _⟩ | ⟨g, c, cur, e1, hge, _⟩
    · rw [e1] at e; cases e
    · rw [e1] at e
      have : i = g := Option.some.inj e
      omega)).trans (h.block i hi)⟩
theorem row_own {g base n k : Nat} {t : TypeId} {f : Nat → Value} {w w' : World} {v : Value} {xs : List Value} (h : w.rowIs g t k f) (hown : w.ownsRow base 5 1 v n xs) (hb : g < base) (hg : w.grownBy w' v.ownBlock) : w'.rowIs g t k f :=
  h.of_block (hg.block g h.lt (by
    intro e
    rcases hown.2 with ⟨e1, _⟩ | ⟨g2, c, cur, e1, hge, _⟩
    · rw [e1] at e; cases e
    · rw [e1] at e
      have : g = g2 := Option.some.inj e
      omega))
theorem row_block {g base n k : Nat} {t : TypeId} {f : Nat → Value} {w w' : World} {v : Value} {xs : List Value} (h : w.rowIs g t k f) (hown : w.ownsRow base 5 1 v n xs) (hb : g < base) (hg : w.grownBy w' v.ownBlock) : w'.heap[g]? = w.heap[g]? :=
  hg.block g h.lt (by
    intro e
    rcases hown.2 with ⟨e1, _⟩ | ⟨g2, c, cur, e1, hge, _⟩
    · rw [e1] at e; cases e
    · rw [e1] at e
      have : g = g2 := Option.some.inj e
      omega)
theorem four_rd (w : World) (y0 y1 y2 y3 : Nat) (hy : y0 < 256 ∧ y1 < 256 ∧ y2 < 256 ∧ y3 < 256) {B : Nat} (hB : w.heap.size < B) :
    Rd (w.alloc (.cells #[.int .u8 (y0 : Int), .int .u8 (y1 : Int), .int .u8 (y2 : Int), .int .u8 (y3 : Int)] 5)) B (some ⟨w.heap.size, 0, none⟩) [y0, y1, y2, y3] := by
  refine ⟨gt_lt_of_mem (by intro v hv; simp only [List.mem_cons, List.not_mem_nil, or_false] at hv; rcases hv with rfl | rfl | rfl | rfl <;> omega), fun _ => ⟨_, rfl, hB, fun j hj => ?_⟩⟩
  have ha : (⟨w.heap.size, 0, none⟩ : Addr).add j = ⟨w.heap.size, j, none⟩ := by unfold Addr.add; split <;> simp_all
  rw [ha, cell_of_row _ _ j _ 5 (0, 0) (heap_alloc_last w _)]
  have hj4 : j < 4 := hj
  match j, hj4 with
  | 0, _ => rfl
  | 1, _ => rfl
  | 2, _ => rfl
  | 3, _ => rfl
  | n + 4, h => omega
theorem slice_block (g L c a a2 c2 : Nat) (h : a + 64 = a2) (h2 : a2 ≤ L) (hLc : L ≤ c) (hc2 : a + c2 = c) (w : World) :
    (Instr.slice 22 (.slice (some ⟨g, 0, none⟩) L c) (some (.int .i64 (a : Int))) (some (.int .i64 (a2 : Int))) none).run Tryd.prog w = .ok (.slice (some ⟨g, a, none⟩) 64 c2) w := by
  have h1 : Tryd.prog.underlying 22 = some (.slice (Tryd.prog.elem 22)) := by kernel_rfl
  have h3 : Tryd.prog.elem 22 = 5 := by kernel_rfl
  have h4 : (Tryd.prog.info? 5).map (·.size) = some 1 := by kernel_rfl
  cases hq : Tryd.prog.info? 5 with
  | none => simp [hq] at h4
  | some i =>
    have hs1 : i.size = 1 := by simpa [hq] using h4
    rw [run_slice_lh (a := some ⟨g, 0, none⟩) (len := L) (cap := c) (w := w) (t := 22) (ht := h1) .i64 .i64 (a : Int) (a2 : Int) (by omega) (by omega) (by omega), h3]
    have e1 : a2 - a = 64 := by omega
    have e2 : c - a = c2 := by omega
    have e3 : ¬ c = a := by omega
    have e4 : ((⟨g, 0, none⟩ : Addr).add a) = ⟨g, a, none⟩ := by unfold Addr.add; split <;> simp_all
    simp [sizeOf, typeInfo, hq, hs1, sliced, e1, e2, e3, e4]

set_option maxHeartbeats 4000000 in
set_option maxRecDepth 100000 in
theorem rsum_to (A : Option Addr) (bs : List Nat) (n c : Nat) (w : World) (out all : List Nat) (hR : Rd w w.heap.size A bs) (hn : bs.length = n) (hc : A = none → c = 0) (hm : n ≤ 100000)
    (HALL : Hid (Unit → whole bs = all)) (HOUT : Hid (∀ K, all.length = 64 * K → told (blocksTo all K) = out)) (hallb : ∀ j, gt all j < 256) :
    Calls Tryd.prog 61 #[.slice A n c] w (Summed w out) := by
  have HR := Lib.hid hR; have HN := Lib.hid (fun _ : Unit => hn); have HC := Lib.hid hc; have HAB := Lib.hid hallb; clear hR hn hc hallb
  obtain ⟨E, hE, hE9, hE72⟩ : ∃ E, E = endLen n ∧ 9 ≤ E ∧ E ≤ 72 := ⟨_, rfl, endLen_ge n, endLen_le n⟩
  have hE64 : (n + E) % 64 = 0 := by rw [hE]; unfold endLen; omega
  have HE := Lib.hid (fun _ : Unit => hE); clear hE
  have HTS : Hid (∀ j, j < E → (endL n).take (j + 1) = (endL n).take j ++ [endAt n 8 j]) := Lib.hid fun j hj => endL_take_succ n j (by rw [← HE.out ()]; exact hj)
  have HEL : Hid (bs ++ (endL n).take E = all) := Lib.hid (by
    rw [← HALL.out (), List.take_of_length_le (by rw [endL_len, HE.out ()]; exact Nat.le_refl _)]
    unfold whole; rw [HN.out ()])
  have HLL : Hid (all.length = n + E) := Lib.hid (by rw [← HALL.out (), whole_len, HN.out (), HE.out ()])
  have HNIL : Hid ((w.alloc (.cells #[] 5)).ownsRow w.heap.size 5 1 (.slice (some ⟨w.heap.size, 0, none⟩) 0 0) 0 (bcells [])) := Lib.hid (World.ownsRow_made w #[] 0 (Nat.le_refl _) (by unfold maxLen; omega) rfl)
  have HBa := Lib.hid ((Below.refl w.heap.size w).alloc (Nat.le_refl _) (.cells #[] 5))
  have hz0 : (w.alloc (.cells #[] 5)).heap.size = w.heap.size + 1 := by simp
  go_enter Tryd.func61, Tryd.ntmps61
  go_wp2_with (at_builtin; refine wpList_append_rd rfl (.tmp 10) (.tmp 11) rfl w.heap.size w.heap.size 0 0 n c w.heap.size [] bs A rfl rfl HNIL.out (HR.out.below HBa.out) (HN.out ()) HC.out (by omega) (by rw [hz0]; omega) ?_)
  intro g1 cap1 w1 hown1 hgrow1 hat1
  have HO1 := Lib.hid hown1; have HB1 := Lib.hid (below_of_only HBa.out hgrow1 (Nat.le_refl _)); clear hown1 hgrow1 hat1 HNIL HBa hz0
  have HO1a := Lib.hid (HO1.out.alloc (.cells #[.int .u8 128] 5))
  have HB1a := Lib.hid (HB1.out.alloc HB1.out.size (.cells #[.int .u8 128] 5))
  have HRd := Lib.hid (one_rd w1 128 128 rfl (by omega) (B := w1.heap.size + 1) (by omega))
  have hg1 : w.heap.size ≤ g1 := (HO1.out.lt g1 rfl).1
  go_wp2_with (at_builtin; refine wpList_append_rd rfl (.tmp 12) (.tmp 13) rfl w.heap.size g1 n cap1 1 1 (w1.heap.size + 1) bs [128] (some ⟨w1.heap.size, 0, none⟩) rfl rfl HO1a.out HRd.out rfl (fun e => by cases e) (by omega) HB1a.out.size ?_)
  intro g2 cap2 w2 hown2 hgrow2 hat2
  have HB2 := Lib.hid (below_of_only HB1a.out hgrow2 hg1)
  have HO2 : Hid (w2.ownsRow w.heap.size 5 1 (.slice (some ⟨g2, 0, none⟩) (n + 1) cap2) (n + 1) (bcells (bs ++ (endL n).take 1))) := Lib.hid (by
    rw [HTS.out 0 (by omega), endAt_first]; exact hown2)
  clear hown2 hgrow2 hat2 HO1 HO1a HB1 HB1a HRd
  go_wp2_with fail
  go_loopw [3] (fun v W => ∃ (j g L cap : Nat), v = .slice (some ⟨g, 0, none⟩) L cap ∧ 1 ≤ j ∧ j + 8 ≤ E ∧ L ≤ n + j ∧ n + j ≤ L ∧ Hid (W.ownsRow w.heap.size 5 1 (.slice (some ⟨g, 0, none⟩) L cap) L (bcells (bs ++ (endL n).take j))) ∧ Hid (Below w.heap.size w W)) (fun v _ => match v with | .slice _ m _ => n + E - m | _ => 0)
  case atStart => exact ⟨1, g2, n + 1, cap2, rfl, by omega, by omega, by omega, by omega, HO2, HB2⟩
  case round =>
    obtain ⟨j, g, L, cap, rfl, hj1, hj8, hL, hL', HO3, HB3⟩ := hrel
    by_cases hje : j + 8 = E
    · have hd : ((L : Int) % 64 != 56) = false := by rw [bne_eq_false_iff_eq]; omega
      have hje1 : j + 8 ≤ E := by omega
      have hje2 : E ≤ j + 8 := by omega
      clear hje
      have hmul : IntKind.u64.wrap ((n : Int) * 8) = (n : Int) * 8 := by rw [IntKind.wrap_u64]; omega
      go_wp2
      go_loopw [3, 5] (fun v i W => ∃ (m j g L cap : Nat), m ≤ 8 ∧ i = .int .i64 (56 - 8 * (m : Int)) ∧ v = .slice (some ⟨g, 0, none⟩) L cap ∧ j + 8 ≤ E + m ∧ E + m ≤ j + 8 ∧ L ≤ n + j ∧ n + j ≤ L ∧ Hid (W.ownsRow w.heap.size 5 1 (.slice (some ⟨g, 0, none⟩) L cap) L (bcells (bs ++ (endL n).take j))) ∧ Hid (Below w.heap.size w W)) (fun _ i _ => (intOf i + 8).toNat)
      case atStart => exact ⟨0, j, g, L, cap, by omega, rfl, rfl, by omega, by omega, by omega, by omega, HO3, HB3⟩
      case round =>
        obtain ⟨m, j4, g4, L4, cap4, hm8, rfl, rfl, hjm, hjm', hL4, hL4', HO4, HB4⟩ := hrel
        by_cases hm7 : m < 8
        · obtain ⟨sh, hsh, hsh', hsh2⟩ : ∃ sh : Nat, sh + 8 * m ≤ 56 ∧ 56 ≤ sh + 8 * m ∧ sh = 8 * (7 - m) := ⟨56 - 8 * m, by omega, by omega, by omega⟩
          rw [show (56 - 8 * (m : Int)) = (sh : Int) by omega]
          have hen : endAt n 8 j4 = n * 8 / 2 ^ sh % 256 := by rw [hsh2]; exact endAt_count n j4 m (by rw [← HE.out ()]; omega) hm7
          have HEN := Lib.hid (fun _ : Unit => hen)
          have HEB := Lib.hid (endAt_lt n 8 j4)
          have HOa := Lib.hid (HO4.out.alloc (.cells #[.int .u8 ((n : Int) * 8 / 2 ^ sh % 256)] 5))
          have HBa := Lib.hid (HB4.out.alloc HB4.out.size (.cells #[.int .u8 ((n : Int) * 8 / 2 ^ sh % 256)] 5))
          have HRd := Lib.hid (one_rd wr ((n : Int) * 8 / 2 ^ sh % 256) (endAt n 8 j4) (by rw [hen]; simp) HEB.out (B := wr.heap.size + 1) (by omega))
          have hg4 : w.heap.size ≤ g4 := (HO4.out.lt g4 rfl).1
          have y0 : ¬ (sh : Int) < 0 := by omega
          clear hen hsh2
          go_wp2_with (at_builtin; refine wpList_append_rd rfl (.tmp 30) (.tmp 35) rfl w.heap.size g4 L4 cap4 1 1 (wr.heap.size + 1) (bs ++ (endL n).take j4) [endAt n 8 j4] (some ⟨wr.heap.size, 0, none⟩) rfl rfl HOa.out HRd.out rfl (fun e => by cases e) (by omega) HBa.out.size ?_)
          intro g5 cap5 w5 hown5 hgrow5 hat5
          have HB5 := Lib.hid (below_of_only HBa.out hgrow5 hg4)
          have HO5 : Hid (w5.ownsRow w.heap.size 5 1 (.slice (some ⟨g5, 0, none⟩) (L4 + 1) cap5) (L4 + 1) (bcells (bs ++ (endL n).take (j4 + 1)))) := Lib.hid (by
            rw [HTS.out j4 (by omega)]
            simpa using hown5)
          clear hown5 hgrow5 hat5
          go_wp2
          go_roundw
          case rel => exact ⟨m + 1, j4 + 1, g5, L4 + 1, cap5, by omega, by congr 1; omega, rfl, by omega, by omega, by omega, by omega, HO5, HB5⟩
          case measure => simp [intOf]; omega
        · obtain rfl : m = 8 := by omega
          obtain rfl : j4 = E := by omega
          rw [HEL.out] at HO4
          rw [show (56 - 8 * ((8 : Nat) : Int)) = -8 from rfl]
          have hLL := HLL.out
          obtain ⟨K, hK, hK'⟩ : ∃ K : Nat, 64 * K ≤ L4 ∧ L4 ≤ 64 * K := ⟨L4 / 64, by omega, by omega⟩
          have hcap := own_cap HO4.out
          unfold maxLen at hcap
          have hg4 : g4 < wr.heap.size := (HO4.out.lt g4 rfl).2
          have HIf : Hid ((Tryd.prog.info? 92).map (·.size) = some (numsOf .u32 firstT).size) := Lib.hid (by kernel_rfl)
          have HZf := Lib.hid (show (numsOf .u32 (tab 8 fun _ => 0)).size = (numsOf .u32 firstT).size from rfl)
          go_wp2_with (refine wpList_store_row rfl 92 (.tmp 6) (.tmp 37) rfl wr.heap.size (numsOf .u32 firstT) rfl rfl 92 (numsOf .u32 (tab 8 fun _ => 0)) (heap_alloc_last wr _) HIf.out HZf.out (numsOf_one _ _) ?_; rw [World.setRow_alloc_new])
          have HS6 := Lib.hid (rowIs_words (n := 8) (heap_alloc_last wr (.cells (numsOf .u32 firstT) 92)) rfl)
          have HO6 := Lib.hid (HO4.out.alloc (.cells (numsOf .u32 firstT) 92))
          have HB6 := Lib.hid (HB4.out.alloc HB4.out.size (.cells (numsOf .u32 firstT) 92))
          have hgsw : w.heap.size ≤ wr.heap.size := HB4.out.size
          generalize wr.alloc (.cells (numsOf .u32 firstT) 92) = W6 at *
          generalize wr.heap.size = gs at *
          clear HO4 HB4 HO3 HB3 HO2 HB2 HIf HZf
          go_loopw [7] (fun i W => ∃ (k a : Nat), i = .int .i64 (a : Nat) ∧ a ≤ 64 * k ∧ 64 * k ≤ a ∧ k ≤ K ∧ Hid (W.rowIs gs 92 8 (wordRow .u32 (blocksTo all k))) ∧ Hid (W.ownsRow w.heap.size 5 1 (.slice (some ⟨g4, 0, none⟩) L4 cap4) L4 (bcells all)) ∧ Hid (Below w.heap.size w W)) (fun i _ => L4 - (intOf i).toNat)
          case atStart => exact ⟨0, 0, rfl, by omega, by omega, by omega, HS6, HO6, HB6⟩
          case round =>
            obtain ⟨k, a, rfl, hak, hak', hkK, HS7, HO7, HB7⟩ := hrel
            have hst := ok_blocksTo all k
            by_cases hk : k < K
            · have HNX : Hid (Unit → blocksTo all (k + 1) = change (blocksTo all k) (blockAt all k)) := Lib.hid fun _ => rfl
              have HBK := Lib.hid (blockAt_ok HAB.out k (by rw [hLL]; omega))
              have HGB : Hid (∀ j, j < 64 → gt (blockAt all k) j = gt all (a + j)) := Lib.hid fun j hj => by
                unfold blockAt; rw [gt_take' _ _ _ hj, gt_drop, show 64 * k + j = a + j by omega]
              generalize blocksTo all k = st at *
              generalize blockAt all k = blk at *
              obtain ⟨a2, ha2, ha2'⟩ : ∃ a2 : Nat, a + 64 ≤ a2 ∧ a2 ≤ a + 64 := ⟨a + 64, by omega, by omega⟩
              obtain ⟨c2, hc2, hc2'⟩ : ∃ c2 : Nat, a + c2 ≤ cap4 ∧ cap4 ≤ a + c2 := ⟨cap4 - a, by omega, by omega⟩
              have hsl := slice_block g4 L4 cap4 a a2 c2 (by omega) (by omega) hcap.1 (by omega)
              have xa : IntKind.i64.wrap ((a : Int) + 64) = (a2 : Int) := by rw [IntKind.wrap_i64]; omega
              have HOST := Lib.hid hst; clear hst
              have HIs : Hid ((Tryd.prog.info? 92).map (·.size) = some (numsOf .u32 st).size) := Lib.hid (by rw [numsOf_size, HOST.out.1]; kernel_rfl)
              have hch : (change st blk).length = 8 := (ok_change HOST.out).1
              have HCN := Lib.hid (fun _ : Unit => hch)
              obtain ⟨st2, HS2e⟩ : ∃ st2, Hid (Unit → change st blk = st2) := ⟨_, Lib.hid fun _ => rfl⟩
              have HIn : Hid ((Tryd.prog.info? 92).map (·.size) = some (numsOf .u32 st2).size) := Lib.hid (by rw [numsOf_size, ← HS2e.out (), hch]; kernel_rfl)
              have HZn := Lib.hid (show (numsOf .u32 st).size = (numsOf .u32 st2).size by rw [numsOf_size, numsOf_size, ← HS2e.out (), hch, HOST.out.1])
              clear hch
              go_wp2
              refine region_calm ?_
              refine wp_region_any (by kernel_rfl) ?_
              change wpAny _ _ _ _ _ _ _ (World.drew _)
              replace HS7 := Lib.hid HS7.out.drew
              replace HO7 := Lib.hid HO7.out.drew
              replace HB7 := Lib.hid HB7.out.drew
              generalize wr.drew = wd at *
              refine wpAny_take (i := 1) (v := ?v1e) rfl (by kernel_rfl) (by kernel_rfl) (by kernel_rfl) (fun _ _ _ h => h) (Or.inl ⟨by rfl, ?y1e⟩) ?r1e
              case y1e => (intro w; go_simp; try with_reducible rfl)
              simp only [List.getElem_toArray, List.getElem_cons_succ, List.getElem_cons_zero, Act.put, List.setIfInBounds_toArray, List.set_cons_zero, List.set_cons_succ]
              refine wpAny_take (i := 2) (v := ?v2e) rfl (by kernel_rfl) (by kernel_rfl) (by kernel_rfl) (fun _ _ _ h => h) (Or.inl ⟨by rfl, ?y2e⟩) ?r2e
              case y2e => (intro w; go_simp; try with_reducible rfl)
              simp only [List.getElem_toArray, List.getElem_cons_succ, List.getElem_cons_zero, Act.put, List.setIfInBounds_toArray, List.set_cons_zero, List.set_cons_succ]
              refine wpAny_take (i := 3) (v := ?v3e) rfl (by kernel_rfl) (by kernel_rfl) (by kernel_rfl) (fun _ _ _ h => h) (Or.inl ⟨by rfl, ?y3e⟩) ?r3e
              case y3e => (intro w; go_simp; try with_reducible rfl)
              simp only [List.getElem_toArray, List.getElem_cons_succ, List.getElem_cons_zero, Act.put, List.setIfInBounds_toArray, List.set_cons_zero, List.set_cons_succ]
              refine wpAny_take (i := 4) (v := ?v4e) rfl (by kernel_rfl) (by kernel_rfl) (by kernel_rfl) (fun _ _ _ h => h) (Or.inl ⟨by rfl, ?y4e⟩) ?r4e
              case y4e => (intro w; go_simp; try with_reducible rfl)
              simp only [List.getElem_toArray, List.getElem_cons_succ, List.getElem_cons_zero, Act.put, List.setIfInBounds_toArray, List.set_cons_zero, List.set_cons_succ]
              refine wpAny_take (i := 5) (v := ?v5e) rfl (by kernel_rfl) (by kernel_rfl) (by kernel_rfl) (fun _ _ _ h => h) (Or.inl ⟨by rfl, ?y5e⟩) ?r5e
              case y5e => (intro w; go_simp; try with_reducible rfl)
              simp only [List.getElem_toArray, List.getElem_cons_succ, List.getElem_cons_zero, Act.put, List.setIfInBounds_toArray, List.set_cons_zero, List.set_cons_succ]
              refine wpAny_ready (rs := [0]) (by kernel_rfl) (by simp) ?_
              refine AllReady.cons rfl (fun K hK => ?_) AllReady.nil
              simp only [List.getElem_toArray, List.getElem_cons_succ, List.getElem_cons_zero]
              rw [if_pos (by rfl)]
              refine wp_load_row 92 (.tmp 6) rfl gs rfl 92 (numsOf .u32 st) (0, 0) _ (heap_words HS7.out HOST.out.1) Tryd.underlying92 rfl HIs.out ?_
              refine hK _ _ ?_
              clear hK K
              try simp only [List.getElem_toArray, List.getElem_cons_succ, List.getElem_cons_zero, Act.put, List.setIfInBounds_toArray, List.set_cons_zero, List.set_cons_succ]
              refine wpAny_ready (rs := [6]) (by kernel_rfl) (by simp) ?_
              refine AllReady.cons rfl (fun K hK => ?_) AllReady.nil
              simp only [List.getElem_toArray, List.getElem_cons_succ, List.getElem_cons_zero]
              go_simp
              refine (rblock_any st blk ⟨g4, a, none⟩ c2 _ HOST.out HBK.out (HO7.out.lt g4 rfl).2 (fun j hj => by
                have ha : (⟨g4, a, none⟩ : Addr).add j = ⟨g4, a + j, none⟩ := by unfold Addr.add; split <;> simp_all
                rw [ha, HO7.out.cellAt (a + j) (by omega), bcells_at all (a + j) (by rw [hLL]; omega), HGB.out j hj])).mono ?_
              rintro e' wz ⟨rfl, hB⟩
              rw [HS2e.out ()]
              have HS8 := Lib.hid (HS7.out.of_block (hB.block gs HS7.out.lt)); have HO8 := Lib.hid (own_below HO7.out hB (Nat.le_refl _)); have HB8 := Lib.hid (HB7.out.trans (hB.mono HB7.out.size))
              clear hB
              refine hK _ _ ?_
              clear hK K
              try simp only [List.getElem_toArray, List.getElem_cons_succ, List.getElem_cons_zero, Act.put, List.setIfInBounds_toArray, List.set_cons_zero, List.set_cons_succ]
              refine wpAny_ready (rs := [7]) (by kernel_rfl) (by simp) ?_
              refine AllReady.cons rfl (fun K hK => ?_) AllReady.nil
              simp only [List.getElem_toArray, List.getElem_cons_succ, List.getElem_cons_zero]
              rw [if_pos (by rfl)]
              refine wp_store_row 92 (.tmp 6) (.tmp 50) rfl gs (numsOf .u32 st2) rfl rfl 92 (numsOf .u32 st) (heap_words HS8.out HOST.out.1) HIn.out HZn.out (numsOf_one _ _) ?_
              refine hK _ _ ?_
              clear hK K
              try simp only [List.getElem_toArray, List.getElem_cons_succ, List.getElem_cons_zero, Act.put, List.setIfInBounds_toArray, List.set_cons_zero, List.set_cons_succ]
              refine wpAny_done (by kernel_rfl) ?_ _
              dsimp only
              have HS9 := Lib.hid (rowIs_words (n := 8) (setRow_heap wz gs _ (numsOf .u32 st2) 92 (0, 0) (heap_words HS8.out HOST.out.1)) (by rw [← HS2e.out ()]; exact HCN.out ()))
              have HO9 : Hid ((wz.setRow gs (numsOf .u32 st2)).ownsRow w.heap.size 5 1 (.slice (some ⟨g4, 0, none⟩) L4 cap4) L4 (bcells all)) := Lib.hid (HO8.out.kept (only_setRow (World.grownBy.refl wz (some gs)) (.inl rfl) _) (.inr (by intro e; have e' : g4 = gs := Option.some.inj e; omega)))
              have HB9 := Lib.hid (below_setRow HB8.out hgsw (numsOf .u32 st2))
              generalize wz.setRow gs (numsOf .u32 st2) = W9 at *
              go_wp2
              go_roundw
              case rel => exact ⟨k + 1, a2, by go_num, by omega, by omega, by omega, Lib.hid (by rw [HNX.out (), HS2e.out ()]; exact HS9.out), HO9, HB9⟩
              case measure => simp [intOf]; omega
            · obtain rfl : k = K := by omega
              have HTO := Lib.hid (fun _ : Unit => HOUT.out k (by rw [hLL]; omega))
              generalize blocksTo all k = st at *
              have HOST := Lib.hid hst; clear hst
              have hdf : decide ((a : Int) < (L4 : Int)) = false := decide_eq_false (by omega)
              have hdf2 : decide (a < L4) = false := decide_eq_false (by omega)
              go_wp2
              go_loopw [8, 9] (fun v i W => ∃ k : Nat, k ≤ 8 ∧ i = .int .i64 k ∧ Hid (W.ownsRow (gs + 1) 5 1 v (4 * k) (bcells (toldTo st k))) ∧ Hid (W.rowIs gs 92 8 (wordRow .u32 st)) ∧ Hid (Below w.heap.size w W)) (fun _ i _ => 8 - (intOf i).toNat)
              case atStart => exact ⟨0, by omega, rfl, Lib.hid ⟨rfl, .inl ⟨rfl, rfl⟩⟩, HS7, HB7⟩
              case round =>
                obtain ⟨q, hq, rfl, HV, HS10, HB10⟩ := hrel
                by_cases hq8 : q < 8
                · have hx := HOST.out.2 q
                  have HSU : Hid (Unit → toldTo st (q + 1) = toldTo st q ++ wbytes (gt st q)) := Lib.hid fun _ => rfl
                  have hcell : wr.cell? ⟨gs, q, none⟩ = some (.int .u32 (gt st q : Nat)) := HS10.out.cell hq8
                  generalize toldTo st q = xs at *
                  generalize gt st q = x at *
                  obtain ⟨z0, y0, hz0, hy0, hy0w⟩ : ∃ z y : Nat, ((x : Int) / 16777216 = (z : Int)) ∧ y = x / 16777216 % 256 ∧ z % 256 = y := ⟨x / 16777216, _, by omega, rfl, rfl⟩
                  obtain ⟨z1, y1, hz1, hy1, hy1w⟩ : ∃ z y : Nat, ((x : Int) / 65536 = (z : Int)) ∧ y = x / 65536 % 256 ∧ z % 256 = y := ⟨x / 65536, _, by omega, rfl, rfl⟩
                  obtain ⟨z2, y2, hz2, hy2, hy2w⟩ : ∃ z y : Nat, ((x : Int) / 256 = (z : Int)) ∧ y = x / 256 % 256 ∧ z % 256 = y := ⟨x / 256, _, by omega, rfl, rfl⟩
                  obtain ⟨y3, hy3⟩ : ∃ y : Nat, y = x % 256 := ⟨_, rfl⟩
                  have m0 : ((z0 : Int) % 256) = (y0 : Int) := by omega
                  have m1 : ((z1 : Int) % 256) = (y1 : Int) := by omega
                  have m2 : ((z2 : Int) % 256) = (y2 : Int) := by omega
                  have m3 : ((x : Int) % 256) = (y3 : Int) := by omega
                  have p0 : IntKind.u8.wrap (z0 : Int) = (y0 : Int) := by rw [IntKind.wrap_u8]; omega
                  have p1 : IntKind.u8.wrap (z1 : Int) = (y1 : Int) := by rw [IntKind.wrap_u8]; omega
                  have p2 : IntKind.u8.wrap (z2 : Int) = (y2 : Int) := by rw [IntKind.wrap_u8]; omega
                  have p3 : IntKind.u8.wrap (x : Int) = (y3 : Int) := by rw [IntKind.wrap_u8]; omega
                  have HWB : Hid (Unit → wbytes x = [y0, y1, y2, y3]) := Lib.hid fun _ => by rw [hy0, hy1, hy2, hy3]; rfl
                  have HY : Hid (y0 < 256 ∧ y1 < 256 ∧ y2 < 256 ∧ y3 < 256) := Lib.hid (by omega)
                  have yq : (q : Int) < 8 := by omega
                  clear hy0 hy1 hy2 hy3 hy0w hy1w hy2w hx
                  go_wp2
                  refine region_calm ?_
                  refine wp_region_any (by kernel_rfl) ?_
                  change wpAny _ _ _ _ _ _ _ (World.drew _)
                  have S0 : wr.drew.cell? ⟨gs, q, none⟩ = some (.int .u32 (x : Nat)) := hcell
                  replace HV := Lib.hid (show wr.drew.ownsRow (gs + 1) 5 1 u8 (4 * q) (bcells xs) from HV.out.drew)
                  replace HS10 := Lib.hid HS10.out.drew
                  replace HB10 := Lib.hid HB10.out.drew
                  clear hcell
                  generalize wr.drew = wd at *
                  refine wpAny_of_held (S := fun w' => w'.cell? ⟨gs, q, none⟩ = some (.int .u32 (x : Nat))) _ _ _ _ ?_
                  refine wpAnyH_take (i := 0) (v := ?v0f) rfl (by kernel_rfl) (by kernel_rfl) (by kernel_rfl) (fun _ _ _ h => h) (Or.inl ⟨by rfl, ?y0f⟩) S0 ?r0f
                  case y0f => (intro w hSw; clear hSw; go_simp; try with_reducible rfl)
                  simp only [List.getElem_toArray, List.getElem_cons_succ, List.getElem_cons_zero, Act.put, List.setIfInBounds_toArray, List.set_cons_zero, List.set_cons_succ]
                  refine wpAnyH_take (i := 1) (v := ?v1f) rfl (by kernel_rfl) (by kernel_rfl) (by kernel_rfl) (fun _ _ _ h => h) (Or.inl ⟨by rfl, ?y1f⟩) S0 ?r1f
                  case y1f => (intro w hSw; clear hSw; go_simp; try with_reducible rfl)
                  simp only [List.getElem_toArray, List.getElem_cons_succ, List.getElem_cons_zero, Act.put, List.setIfInBounds_toArray, List.set_cons_zero, List.set_cons_succ]
                  refine wpAnyH_take (i := 2) (v := ?v2f) rfl (by kernel_rfl) (by kernel_rfl) (by kernel_rfl) (fun _ _ _ h => h) (Or.inl ⟨by rfl, ?y2f⟩) S0 ?r2f
                  case y2f => (intro w hSw; clear hSw; go_simp; try with_reducible rfl)
                  simp only [List.getElem_toArray, List.getElem_cons_succ, List.getElem_cons_zero, Act.put, List.setIfInBounds_toArray, List.set_cons_zero, List.set_cons_succ]
                  refine wpAnyH_take (i := 3) (v := ?v3f) rfl (by kernel_rfl) (by kernel_rfl) (by kernel_rfl) (fun _ _ _ h => h) (Or.inl ⟨by rfl, ?y3f⟩) S0 ?r3f
                  case y3f => (intro w hSw; (try dsimp only at hSw); go_simp; try with_reducible rfl)
                  simp only [List.getElem_toArray, List.getElem_cons_succ, List.getElem_cons_zero, Act.put, List.setIfInBounds_toArray, List.set_cons_zero, List.set_cons_succ]
                  refine wpAnyH_take (i := 4) (v := ?v4f) rfl (by kernel_rfl) (by kernel_rfl) (by kernel_rfl) (fun _ _ _ h => h) (Or.inl ⟨by rfl, ?y4f⟩) S0 ?r4f
                  case y4f => (intro w hSw; clear hSw; go_simp; try with_reducible rfl)
                  simp only [List.getElem_toArray, List.getElem_cons_succ, List.getElem_cons_zero, Act.put, List.setIfInBounds_toArray, List.set_cons_zero, List.set_cons_succ]
                  refine wpAnyH_take (i := 5) (v := ?v5f) rfl (by kernel_rfl) (by kernel_rfl) (by kernel_rfl) (fun _ _ _ h => h) (Or.inl ⟨by rfl, ?y5f⟩) S0 ?r5f
                  case y5f => (intro w hSw; clear hSw; go_simp; try with_reducible rfl)
                  simp only [List.getElem_toArray, List.getElem_cons_succ, List.getElem_cons_zero, Act.put, List.setIfInBounds_toArray, List.set_cons_zero, List.set_cons_succ]
                  refine wpAnyH_take (i := 6) (v := ?v6f) rfl (by kernel_rfl) (by kernel_rfl) (by kernel_rfl) (fun _ _ _ h => h) (Or.inl ⟨by rfl, ?y6f⟩) S0 ?r6f
                  case y6f => (intro w hSw; clear hSw; go_simp; try with_reducible rfl)
                  simp only [List.getElem_toArray, List.getElem_cons_succ, List.getElem_cons_zero, Act.put, List.setIfInBounds_toArray, List.set_cons_zero, List.set_cons_succ]
                  refine wpAnyH_take (i := 7) (v := ?v7f) rfl (by kernel_rfl) (by kernel_rfl) (by kernel_rfl) (fun _ _ _ h => h) (Or.inl ⟨by rfl, ?y7f⟩) S0 ?r7f
                  case y7f => (intro w hSw; clear hSw; go_simp; try with_reducible rfl)
                  simp only [List.getElem_toArray, List.getElem_cons_succ, List.getElem_cons_zero, Act.put, List.setIfInBounds_toArray, List.set_cons_zero, List.set_cons_succ]
                  refine wpAnyH_take (i := 8) (v := ?v8f) rfl (by kernel_rfl) (by kernel_rfl) (by kernel_rfl) (fun _ _ _ h => h) (Or.inl ⟨by rfl, ?y8f⟩) S0 ?r8f
                  case y8f => (intro w hSw; (try dsimp only at hSw); go_simp; try with_reducible rfl)
                  simp only [List.getElem_toArray, List.getElem_cons_succ, List.getElem_cons_zero, Act.put, List.setIfInBounds_toArray, List.set_cons_zero, List.set_cons_succ]
                  refine wpAnyH_take (i := 9) (v := ?v9f) rfl (by kernel_rfl) (by kernel_rfl) (by kernel_rfl) (fun _ _ _ h => h) (Or.inl ⟨by rfl, ?y9f⟩) S0 ?r9f
                  case y9f => (intro w hSw; clear hSw; go_simp; try with_reducible rfl)
                  simp only [List.getElem_toArray, List.getElem_cons_succ, List.getElem_cons_zero, Act.put, List.setIfInBounds_toArray, List.set_cons_zero, List.set_cons_succ]
                  refine wpAnyH_take (i := 10) (v := ?v10f) rfl (by kernel_rfl) (by kernel_rfl) (by kernel_rfl) (fun _ _ _ h => h) (Or.inl ⟨by rfl, ?y10f⟩) S0 ?r10f
                  case y10f => (intro w hSw; clear hSw; go_simp; try with_reducible rfl)
                  simp only [List.getElem_toArray, List.getElem_cons_succ, List.getElem_cons_zero, Act.put, List.setIfInBounds_toArray, List.set_cons_zero, List.set_cons_succ]
                  refine wpAnyH_take (i := 11) (v := ?v11f) rfl (by kernel_rfl) (by kernel_rfl) (by kernel_rfl) (fun _ _ _ h => h) (Or.inl ⟨by rfl, ?y11f⟩) S0 ?r11f
                  case y11f => (intro w hSw; clear hSw; go_simp; try with_reducible rfl)
                  simp only [List.getElem_toArray, List.getElem_cons_succ, List.getElem_cons_zero, Act.put, List.setIfInBounds_toArray, List.set_cons_zero, List.set_cons_succ]
                  refine wpAnyH_take (i := 12) (v := ?v12f) rfl (by kernel_rfl) (by kernel_rfl) (by kernel_rfl) (fun _ _ _ h => h) (Or.inl ⟨by rfl, ?y12f⟩) S0 ?r12f
                  case y12f => (intro w hSw; clear hSw; go_simp; try with_reducible rfl)
                  simp only [List.getElem_toArray, List.getElem_cons_succ, List.getElem_cons_zero, Act.put, List.setIfInBounds_toArray, List.set_cons_zero, List.set_cons_succ]
                  refine wpAnyH_take (i := 13) (v := ?v13f) rfl (by kernel_rfl) (by kernel_rfl) (by kernel_rfl) (fun _ _ _ h => h) (Or.inl ⟨by rfl, ?y13f⟩) S0 ?r13f
                  case y13f => (intro w hSw; (try dsimp only at hSw); go_simp; try with_reducible rfl)
                  simp only [List.getElem_toArray, List.getElem_cons_succ, List.getElem_cons_zero, Act.put, List.setIfInBounds_toArray, List.set_cons_zero, List.set_cons_succ]
                  refine wpAnyH_take (i := 14) (v := ?v14f) rfl (by kernel_rfl) (by kernel_rfl) (by kernel_rfl) (fun _ _ _ h => h) (Or.inl ⟨by rfl, ?y14f⟩) S0 ?r14f
                  case y14f => (intro w hSw; clear hSw; go_simp; try with_reducible rfl)
                  simp only [List.getElem_toArray, List.getElem_cons_succ, List.getElem_cons_zero, Act.put, List.setIfInBounds_toArray, List.set_cons_zero, List.set_cons_succ]
                  refine wpAnyH_take (i := 15) (v := ?v15f) rfl (by kernel_rfl) (by kernel_rfl) (by kernel_rfl) (fun _ _ _ h => h) (Or.inl ⟨by rfl, ?y15f⟩) S0 ?r15f
                  case y15f => (intro w hSw; clear hSw; go_simp; try with_reducible rfl)
                  simp only [List.getElem_toArray, List.getElem_cons_succ, List.getElem_cons_zero, Act.put, List.setIfInBounds_toArray, List.set_cons_zero, List.set_cons_succ]
                  refine wpAnyH_take (i := 16) (v := ?v16f) rfl (by kernel_rfl) (by kernel_rfl) (by kernel_rfl) (fun _ _ _ h => h) (Or.inl ⟨by rfl, ?y16f⟩) S0 ?r16f
                  case y16f => (intro w hSw; clear hSw; go_simp; try with_reducible rfl)
                  simp only [List.getElem_toArray, List.getElem_cons_succ, List.getElem_cons_zero, Act.put, List.setIfInBounds_toArray, List.set_cons_zero, List.set_cons_succ]
                  refine wpAnyH_take (i := 17) (v := ?v17f) rfl (by kernel_rfl) (by kernel_rfl) (by kernel_rfl) (fun _ _ _ h => h) (Or.inl ⟨by rfl, ?y17f⟩) S0 ?r17f
                  case y17f => (intro w hSw; clear hSw; go_simp; try with_reducible rfl)
                  simp only [List.getElem_toArray, List.getElem_cons_succ, List.getElem_cons_zero, Act.put, List.setIfInBounds_toArray, List.set_cons_zero, List.set_cons_succ]
                  refine wpAnyH_take (i := 18) (v := ?v18f) rfl (by kernel_rfl) (by kernel_rfl) (by kernel_rfl) (fun _ _ _ h => h) (Or.inl ⟨by rfl, ?y18f⟩) S0 ?r18f
                  case y18f => (intro w hSw; (try dsimp only at hSw); go_simp; try with_reducible rfl)
                  simp only [List.getElem_toArray, List.getElem_cons_succ, List.getElem_cons_zero, Act.put, List.setIfInBounds_toArray, List.set_cons_zero, List.set_cons_succ]
                  refine wpAnyH_take (i := 19) (v := ?v19f) rfl (by kernel_rfl) (by kernel_rfl) (by kernel_rfl) (fun _ _ _ h => h) (Or.inl ⟨by rfl, ?y19f⟩) S0 ?r19f
                  case y19f => (intro w hSw; clear hSw; go_simp; try with_reducible rfl)
                  simp only [List.getElem_toArray, List.getElem_cons_succ, List.getElem_cons_zero, Act.put, List.setIfInBounds_toArray, List.set_cons_zero, List.set_cons_succ]
                  refine wpAnyH_ready (rs := [20]) (by kernel_rfl) (by simp) ?_
                  refine AllReadyH.cons rfl (fun K hK => ?_) AllReadyH.nil
                  simp only [List.getElem_toArray, List.getElem_cons_succ, List.getElem_cons_zero]
                  go_simp
                  have S1 : (wd.alloc (.cells #[.int .u8 (y0 : Int), .int .u8 (y1 : Int), .int .u8 (y2 : Int), .int .u8 (y3 : Int)] 5)).cell? ⟨gs, q, none⟩ = some (.int .u32 (x : Nat)) := by rw [((Below.refl wd.heap.size wd).alloc (Nat.le_refl _) (.cells #[.int .u8 (y0 : Int), .int .u8 (y1 : Int), .int .u8 (y2 : Int), .int .u8 (y3 : Int)] 5)).cell (show gs < wd.heap.size from HS10.out.lt)]; exact S0
                  refine hK.out _ _ S1 (fun _ => ?_)
                  clear hK K
                  try simp only [List.getElem_toArray, List.getElem_cons_succ, List.getElem_cons_zero, Act.put, List.setIfInBounds_toArray, List.set_cons_zero, List.set_cons_succ]
                  have HOa := Lib.hid (HV.out.alloc (.cells #[.int .u8 (y0 : Int), .int .u8 (y1 : Int), .int .u8 (y2 : Int), .int .u8 (y3 : Int)] 5))
                  have HSa := Lib.hid (HS10.out.alloc (.cells #[.int .u8 (y0 : Int), .int .u8 (y1 : Int), .int .u8 (y2 : Int), .int .u8 (y3 : Int)] 5))
                  have HBa := Lib.hid (HB10.out.alloc HB10.out.size (.cells #[.int .u8 (y0 : Int), .int .u8 (y1 : Int), .int .u8 (y2 : Int), .int .u8 (y3 : Int)] 5))
                  have HRa := Lib.hid (four_rd wd y0 y1 y2 y3 HY.out (B := wd.heap.size + 1) (by omega))
                  have hgz : gs + 1 ≤ (wd.alloc (.cells #[.int .u8 (y0 : Int), .int .u8 (y1 : Int), .int .u8 (y2 : Int), .int .u8 (y3 : Int)] 5)).heap.size := by have := HSa.out.lt; omega
                  have hwz : w.heap.size ≤ (wd.alloc (.cells #[.int .u8 (y0 : Int), .int .u8 (y1 : Int), .int .u8 (y2 : Int), .int .u8 (y3 : Int)] 5)).heap.size := HBa.out.size
                  refine wpAnyH_ready (rs := [21]) (by kernel_rfl) (by simp) ?_
                  refine AllReadyH.cons rfl (fun K hK => ?_) AllReadyH.nil
                  simp only [List.getElem_toArray, List.getElem_cons_succ, List.getElem_cons_zero]
                  rw [if_pos (by rfl)]
                  refine wp_append_any (.tmp 55) (.tmp 75) rfl (gs + 1) (4 * q) 4 4 (wd.heap.size + 1) u8 xs [y0, y1, y2, y3] ⟨wd.heap.size, 0, none⟩ rfl rfl HOa.out HRa.out rfl (by omega) (by omega) hgz ?_
                  intro g11 cap11 w11 hown11 hgrow11
                  have HB11 := Lib.hid (below_own HBa.out HOa.out (by omega) hgrow11 hwz)
                  have HS11 := Lib.hid (row_own HSa.out HOa.out (by omega) hgrow11)
                  have HV11 := Lib.hid hown11
                  have S2 : w11.cell? ⟨gs, q, none⟩ = some (.int .u32 (x : Nat)) := by rw [World.cell?_of_block (w := wd.alloc (.cells #[.int .u8 (y0 : Int), .int .u8 (y1 : Int), .int .u8 (y2 : Int), .int .u8 (y3 : Int)] 5)) (w' := w11) (show w11.heap[gs]? = (wd.alloc (.cells #[.int .u8 (y0 : Int), .int .u8 (y1 : Int), .int .u8 (y2 : Int), .int .u8 (y3 : Int)] 5)).heap[gs]? from row_block HSa.out HOa.out (by omega) hgrow11)]; exact S1
                  clear hown11 hgrow11
                  refine hK.out _ _ S2 (fun _ => ?_)
                  clear hK K
                  try simp only [List.getElem_toArray, List.getElem_cons_succ, List.getElem_cons_zero, Act.put, List.setIfInBounds_toArray, List.set_cons_zero, List.set_cons_succ]
                  refine wpAnyH_take (i := 22) (v := ?v22f) rfl (by kernel_rfl) (by kernel_rfl) (by kernel_rfl) (fun _ _ _ h => h) (Or.inl ⟨by rfl, ?y22f⟩) S2 ?r22f
                  case y22f => (intro w hSw; clear hSw; go_simp; try with_reducible rfl)
                  simp only [List.getElem_toArray, List.getElem_cons_succ, List.getElem_cons_zero, Act.put, List.setIfInBounds_toArray, List.set_cons_zero, List.set_cons_succ]
                  refine wpAnyH_done (by kernel_rfl) ?_ _
                  dsimp only
                  go_wp2
                  go_roundw
                  case rel => exact ⟨q + 1, by omega, by go_num, Lib.hid (by rw [HSU.out (), HWB.out ()]; exact HV11.out), HS11, HB11⟩
                  case measure => simp [intOf]; omega
                · obtain rfl : q = 8 := by omega
                  have hf : toldTo st 8 = out := HTO.out ()
                  rw [hf] at HV
                  have HV' : Hid (wr.ownsRow (gs + 1) 5 1 u8 32 (bcells out)) := HV
                  rcases HV'.out.2 with ⟨_, h0⟩ | ⟨h, cp, cur, hv, _⟩
                  · omega
                  · subst hv
                    go_wp2
                    go_ret
                    exact ⟨h, cp, rfl, own_lower HV'.out (by omega), HB10.out⟩
    · have hd : ((L : Int) % 64 != 56) = true := by rw [bne_iff_ne]; omega
      have HOa := Lib.hid (HO3.out.alloc (.cells #[.int .u8 0] 5))
      have HBa := Lib.hid (HB3.out.alloc HB3.out.size (.cells #[.int .u8 0] 5))
      have HRd := Lib.hid (one_rd wr 0 0 rfl (by omega) (B := wr.heap.size + 1) (by omega))
      have hg : w.heap.size ≤ g := (HO3.out.lt g rfl).1
      have hj9 : j + 9 ≤ E := by omega
      clear hje
      go_wp2_with (at_builtin; refine wpList_append_rd rfl (.tmp 19) (.tmp 20) rfl w.heap.size g L cap 1 1 (wr.heap.size + 1) (bs ++ (endL n).take j) [0] (some ⟨wr.heap.size, 0, none⟩) rfl rfl HOa.out HRd.out rfl (fun e => by cases e) (by omega) HBa.out.size ?_)
      intro g5 cap5 w5 hown5 hgrow5 hat5
      have HB5 := Lib.hid (below_of_only HBa.out hgrow5 hg)
      have HO5 : Hid (w5.ownsRow w.heap.size 5 1 (.slice (some ⟨g5, 0, none⟩) (L + 1) cap5) (L + 1) (bcells (bs ++ (endL n).take (j + 1)))) := Lib.hid (by
        rw [HTS.out j (by omega), endAt_nought n j (by omega) (by rw [← HE.out ()]; omega)]
        simpa using hown5)
      clear hown5 hgrow5 hat5
      go_wp2
      go_roundw
      case rel => exact ⟨j + 1, g5, L + 1, cap5, rfl, by omega, by omega, by omega, by omega, HO5, HB5⟩
      case measure => show n + E - (L + 1) < n + E - L; omega

theorem rsum_any (A : Option Addr) (bs : List Nat) (n c : Nat) (w : World) (hR : Rd w w.heap.size A bs) (hn : bs.length = n) (hc : A = none → c = 0) (hm : n ≤ 100000) :
    Calls Tryd.prog 61 #[.slice A n c] w (Summed w (sum bs)) :=
  rsum_to A bs n c w _ _ hR hn hc hm (Lib.hid fun _ => rfl) (Lib.hid fun K hK => sum_blocks bs K hK) (by unfold whole; exact gt_append_lt hR.1 (endL_lt _))

end Go.Proofs.YtkplkfokpniflaaDoor.Sha
