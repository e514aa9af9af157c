/- Plain mathematics: the document's own SHA-256 says the same: a block's words, the blocks one behind the other, the end. -/
import Derived.Test.YtfcnhendebjjeaaDoorShaPlain
namespace Go.Proofs.YtfcnhendebjjeaaDoor.Sha
set_option linter.all false

theorem or_add (a b i : Nat) (hb : b < 2 ^ i) : a * 2 ^ i ||| b = a * 2 ^ i + b := by
  rw [Nat.mul_comm, ← Nat.two_pow_add_eq_or_of_lt hb]
/-- as many bytes of word i as there are -/
def part (b : List Nat) (i : Nat) : Nat → Nat
  | 0 => 0
  | m + 1 => part b i m * 256 + gt b (4 * i + m)
theorem part_lt {b : List Nat} (hb : ∀ j, gt b j < 256) (i : Nat) : ∀ m, part b i m < 256 ^ m
  | 0 => by show 0 < 1; omega
  | m + 1 => by
    have h1 := part_lt hb i m
    have h2 := hb (4 * i + m)
    show part b i m * 256 + gt b (4 * i + m) < 256 ^ (m + 1)
    rw [Nat.pow_succ]; omega
theorem gt_packTo {b : List Nat} (h : Ok 256 64 b) : ∀ n, n ≤ 64 → ∀ i, i < 64 → gt (packTo b n) i = part b i (min (n - 4 * i) 4)
  | 0, _, i, hi => by
    show gt (tab 64 fun _ => 0) i = _
    rw [gt_tab _ _ _ hi, show min (0 - 4 * i) 4 = 0 by omega]; rfl
  | n + 1, hn, i, hi => by
    have ih := gt_packTo h n (by omega)
    show gt ((packTo b n).set (n / 4) (packw (packTo b n) n (gt b n))) i = _
    rw [gt_set _ _ _ _ (by rw [(ok_packTo h n (by omega)).1]; omega)]
    by_cases e : i = n / 4
    · rw [if_pos e]
      unfold packw
      rw [← e, ih i hi]
      have hm : min (n - 4 * i) 4 = n - 4 * i := by omega
      have hm2 : min (n + 1 - 4 * i) 4 = (n - 4 * i) + 1 := by omega
      rw [hm, hm2]
      have hp := part_lt h.2 i (n - 4 * i)
      have hle : 256 ^ (n - 4 * i) ≤ 256 ^ 3 := Nat.pow_le_pow_right (by omega) (by omega)
      have hc : (256 : Nat) ^ 3 = 16777216 := rfl
      rw [hc] at hle
      rw [Nat.mod_eq_of_lt (show part b i (n - 4 * i) * 256 < 4294967296 by omega)]
      have := or_add (part b i (n - 4 * i)) (gt b n) 8 (h.2 n)
      have h8 : (2 : Nat) ^ 8 = 256 := rfl
      rw [h8] at this
      rw [this]
      show _ = part b i (n - 4 * i) * 256 + gt b (4 * i + (n - 4 * i))
      rw [show 4 * i + (n - 4 * i) = n by omega]
    · rw [if_neg e, ih i hi]
      congr 1
      omega
/-- the document's word -/
def wordOf (b : List Nat) (i : Nat) : Nat := ((gt b (4 * i) * 16777216 % 4294967296 ||| gt b (4 * i + 1) * 65536 % 4294967296) ||| gt b (4 * i + 2) * 256 % 4294967296) ||| gt b (4 * i + 3)
theorem wordOf_eq {b : List Nat} (hb : ∀ j, gt b j < 256) (i : Nat) : wordOf b i = part b i 4 := by
  have h0 := hb (4 * i); have h1 := hb (4 * i + 1); have h2 := hb (4 * i + 2); have h3 := hb (4 * i + 3)
  unfold wordOf
  rw [Nat.mod_eq_of_lt (show gt b (4 * i) * 16777216 < 4294967296 by omega), Nat.mod_eq_of_lt (show gt b (4 * i + 1) * 65536 < 4294967296 by omega), Nat.mod_eq_of_lt (show gt b (4 * i + 2) * 256 < 4294967296 by omega)]
  have e1 : gt b (4 * i) * 16777216 ||| gt b (4 * i + 1) * 65536 = gt b (4 * i) * 16777216 + gt b (4 * i + 1) * 65536 := or_add (gt b (4 * i)) (gt b (4 * i + 1) * 65536) 24 (by show _ < 16777216; omega)
  have e2 : (gt b (4 * i) * 16777216 + gt b (4 * i + 1) * 65536) ||| gt b (4 * i + 2) * 256 = gt b (4 * i) * 16777216 + gt b (4 * i + 1) * 65536 + gt b (4 * i + 2) * 256 := by
    have := or_add (gt b (4 * i) * 256 + gt b (4 * i + 1)) (gt b (4 * i + 2) * 256) 16 (by show _ < 65536; omega)
    have h : (2 : Nat) ^ 16 = 65536 := rfl
    rw [h] at this
    rw [show gt b (4 * i) * 16777216 + gt b (4 * i + 1) * 65536 = (gt b (4 * i) * 256 + gt b (4 * i + 1)) * 65536 by omega]
    exact this
  have e3 : (gt b (4 * i) * 16777216 + gt b (4 * i + 1) * 65536 + gt b (4 * i + 2) * 256) ||| gt b (4 * i + 3) = gt b (4 * i) * 16777216 + gt b (4 * i + 1) * 65536 + gt b (4 * i + 2) * 256 + gt b (4 * i + 3) := by
    have := or_add (gt b (4 * i) * 65536 + gt b (4 * i + 1) * 256 + gt b (4 * i + 2)) (gt b (4 * i + 3)) 8 h3
    have h : (2 : Nat) ^ 8 = 256 := rfl
    rw [h] at this
    rw [show gt b (4 * i) * 16777216 + gt b (4 * i + 1) * 65536 + gt b (4 * i + 2) * 256 = (gt b (4 * i) * 65536 + gt b (4 * i + 1) * 256 + gt b (4 * i + 2)) * 256 by omega]
    exact this
  rw [e1, e2, e3]
  simp only [part, Nat.add_zero, Nat.zero_mul, Nat.zero_add]
  omega
theorem wordOf_lt {b : List Nat} (hb : ∀ j, gt b j < 256) (i : Nat) : wordOf b i < 4294967296 := by
  rw [wordOf_eq hb]; exact part_lt hb i 4
/-- the first k words, and noughts -/
def firstTo (b : List Nat) (k : Nat) : List Nat := tab 64 fun i => if i < k then wordOf b i else 0
theorem ok_firstTo {b : List Nat} (hb : ∀ j, gt b j < 256) (k : Nat) : Ok 4294967296 64 (firstTo b k) := by
  refine ok_tab (by omega) _ fun i _ => ?_
  split
  · exact wordOf_lt hb i
  · omega
theorem firstTo_zero (b : List Nat) : firstTo b 0 = tab 64 fun _ => 0 := by
  refine ext_gt (tab_len _ _) (tab_len _ _) fun i hi => ?_
  unfold firstTo; rw [gt_tab _ _ _ hi, gt_tab _ _ _ hi, if_neg (by omega)]
theorem firstTo_succ (b : List Nat) (k : Nat) (hk : k < 64) : (firstTo b k).set k (wordOf b k) = firstTo b (k + 1) := by
  refine ext_gt (by simp [firstTo, tab]) (tab_len _ _) fun i hi => ?_
  rw [gt_set _ _ _ _ (by rw [firstTo, tab_len]; exact hk)]
  unfold firstTo
  rw [gt_tab _ _ _ hi, gt_tab _ _ _ hi]
  by_cases e : i = k
  · subst e; simp
  · rw [if_neg e]
    by_cases h : i < k
    · rw [if_pos h, if_pos (by omega)]
    · rw [if_neg h, if_neg (by omega)]
theorem firstTo_all {b : List Nat} (h : Ok 256 64 b) : firstTo b 16 = packTo b 64 := by
  refine ext_gt (tab_len _ _) (ok_packTo h 64 (Nat.le_refl _)).1 fun i hi => ?_
  rw [gt_packTo h 64 (Nat.le_refl _) i hi]
  unfold firstTo
  rw [gt_tab _ _ _ hi]
  by_cases h16 : i < 16
  · rw [if_pos h16, wordOf_eq h.2, show min (64 - 4 * i) 4 = 4 by omega]
  · rw [if_neg h16, show min (64 - 4 * i) 4 = 0 by omega]; rfl

/-- blocks of all, one behind the other -/
def blockAt (all : List Nat) (k : Nat) : List Nat := (all.drop (64 * k)).take 64
def blocksTo (all : List Nat) : Nat → List Nat
  | 0 => firstT
  | k + 1 => change (blocksTo all k) (blockAt all k)
theorem ok_blocksTo (all : List Nat) : ∀ k, Ok 4294967296 8 (blocksTo all k)
  | 0 => ok_first
  | k + 1 => ok_change (ok_blocksTo all k)
theorem gt_drop (l : List Nat) (k j : Nat) : gt (l.drop k) j = gt l (k + j) := by
  unfold gt; rw [List.getD_eq_getElem?_getD, List.getD_eq_getElem?_getD, List.getElem?_drop]
theorem gt_take' (l : List Nat) (k i : Nat) (h : i < k) : gt (l.take k) i = gt l i := by
  unfold gt; rw [List.getD_eq_getElem?_getD, List.getD_eq_getElem?_getD, List.getElem?_take_of_lt h]
theorem blockAt_ok {all : List Nat} (h : ∀ j, gt all j < 256) (k : Nat) (hk : 64 * k + 64 ≤ all.length) : Ok 256 64 (blockAt all k) := by
  refine ⟨by unfold blockAt; rw [List.length_take, List.length_drop]; omega, fun i => ?_⟩
  unfold blockAt
  by_cases hi : i < 64
  · rw [gt_take' _ _ _ hi, gt_drop]; exact h _
  · rw [gt_ge _ _ (by rw [List.length_take]; omega)]; omega
theorem over_all (b l : List Nat) (h : l.length = 64) : over b 0 l = l := by
  refine ext_gt (tab_len _ _) h fun i hi => ?_
  unfold over
  rw [gt_tab _ _ _ hi, if_pos (by omega)]; rfl
theorem takeAll_blocks (all : List Nat) : ∀ k, 64 * k ≤ all.length → ∃ buf, buf.length = 64 ∧ takeAll start (all.take (64 * k)) = ⟨blocksTo all k, buf, 64 * k⟩
  | 0, _ => ⟨tab 64 fun _ => 0, tab_len _ _, rfl⟩
  | k + 1, h => by
    obtain ⟨buf, hb, ih⟩ := takeAll_blocks all k (by omega)
    have hl : (blockAt all k).length = 64 := by unfold blockAt; rw [List.length_take, List.length_drop]; omega
    have e : all.take (64 * (k + 1)) = all.take (64 * k) ++ blockAt all k := by
      unfold blockAt
      rw [show 64 * (k + 1) = 64 * k + 64 by omega, List.take_add]
    refine ⟨blockAt all k, hl, ?_⟩
    rw [e, takeAll_append, ih, take_fit (blockAt all k) ⟨blocksTo all k, buf, 64 * k⟩ hb (by intro h0; rw [h0] at hl; simp at hl) (by rw [hl]; dsimp only; omega)]
    have hm : (64 * k) % 64 = 0 := by omega
    dsimp only
    rw [hm, hl, if_pos (by omega), over_all _ _ hl]
    rfl
def whole (l : List Nat) : List Nat := l ++ endL l.length
theorem whole_len (l : List Nat) : (whole l).length = l.length + endLen l.length := by unfold whole; rw [List.length_append, endL_len]
theorem whole_mod (l : List Nat) : (whole l).length % 64 = 0 := by rw [whole_len]; unfold endLen; omega
theorem sum_blocks (l : List Nat) (k : Nat) (h : (whole l).length = 64 * k) : told (blocksTo (whole l) k) = sum l := by
  obtain ⟨buf, _, e⟩ := takeAll_blocks (whole l) k (by omega)
  rw [List.take_of_length_le (by omega)] at e
  unfold sum sumOf
  have hn : (takeAll start l).n = l.length := by rw [takeAll_n]; show 0 + l.length = _; omega
  rw [hn, ← takeAll_append]
  show _ = told (takeAll start (whole l)).st
  rw [e]
/-- the end, one byte at a time -/
theorem endL_take_succ (n j : Nat) (hj : j < endLen n) : (endL n).take (j + 1) = (endL n).take j ++ [endAt n 8 j] := by
  have hl := endL_len n
  rw [List.take_succ_eq_append_getElem (by omega)]
  congr 2
  have := gt_tab (endLen n) (endAt n 8) j hj
  unfold gt at this
  rw [List.getD_eq_getElem?_getD] at this
  rw [← this]
  unfold endL at *
  rw [List.getElem?_eq_getElem (by rw [hl]; exact hj)]; rfl
theorem endAt_first (n : Nat) : endAt n 8 0 = 128 := by
  have := endLen_ge n
  unfold endAt; rw [if_neg (by omega), if_pos rfl]
theorem endAt_nought (n j : Nat) (h0 : 0 < j) (h : j + 8 < endLen n) : endAt n 8 j = 0 := by
  unfold endAt; rw [if_neg (by omega), if_neg (by omega)]
theorem endAt_count (n j m : Nat) (h : j + 8 = endLen n + m) (hm : m < 8) : endAt n 8 j = n * 8 / 2 ^ (8 * (7 - m)) % 256 := by
  unfold endAt; rw [if_pos (by omega), show endLen n - 1 - j = 7 - m by omega]

end Go.Proofs.YtfcnhendebjjeaaDoor.Sha
