/- Plain mathematics of wire: numbers', lengths', texts' and lists' bytes; what is read; there and back; one way alone; no beginning of another. -/
import Derived.Test.YthjoafldndgahaaDoorWrKit
namespace Go.Proofs.YthjoafldndgahaaDoor.Wr
set_option linter.all false

theorem gt_drop (l : List Nat) (k j : Nat) : gt (l.drop k) j = gt l (k + j) := by
  unfold gt; rw [List.getD_eq_getElem?_getD, List.getD_eq_getElem?_getD, List.getElem?_drop]
theorem take_lt {l : List Nat} (h : ∀ j, gt l j < 256) (k : Nat) : ∀ j, gt (l.take k) j < 256 := by
  intro j
  by_cases hj : j < k
  · rw [gt_take _ _ _ hj]; exact h j
  · rw [gt_ge _ _ (by rw [List.length_take]; omega)]; decide
theorem drop_lt {l : List Nat} (h : ∀ j, gt l j < 256) (k : Nat) : ∀ j, gt (l.drop k) j < 256 := by
  intro j; rw [gt_drop]; exact h _

/-- a number's bytes, the highest first -/
def be : Nat → Nat → List Nat
  | 0, _ => []
  | k + 1, n => n / 256 ^ k % 256 :: be k n
/-- the number of bytes -/
def val : List Nat → Nat
  | [] => 0
  | x :: l => x * 256 ^ l.length + val l
theorem be_len : ∀ k n, (be k n).length = k
  | 0, _ => rfl
  | k + 1, n => by simp [be, be_len k n]
theorem gt_be : ∀ k n i, i < k → gt (be k n) i = n / 256 ^ (k - 1 - i) % 256
  | 0, _, _, h => by omega
  | k + 1, n, 0, _ => rfl
  | k + 1, n, i + 1, h => by
    rw [be, gt_cons_succ, gt_be k n i (by omega)]
    congr 3; omega
theorem be_lt (k n : Nat) : ∀ j, gt (be k n) j < 256 := by
  intro j
  by_cases h : j < k
  · rw [gt_be k n j h]; exact Nat.mod_lt _ (by omega)
  · rw [gt_ge _ _ (by rw [be_len]; omega)]; decide
theorem val_lt : ∀ l : List Nat, (∀ x ∈ l, x < 256) → val l < 256 ^ l.length
  | [], _ => by decide
  | x :: l, h => by
    have h1 := val_lt l fun y hy => h y (List.mem_cons_of_mem _ hy)
    have h2 := h x (List.mem_cons_self ..)
    rw [val, List.length_cons, Nat.pow_succ]
    have : x * 256 ^ l.length + 256 ^ l.length ≤ 256 ^ l.length * 256 := by
      rw [← Nat.succ_mul, Nat.mul_comm]; exact Nat.mul_le_mul_left _ (by omega)
    omega
theorem val_be : ∀ k n, val (be k n) = n % 256 ^ k
  | 0, n => by simp [be, val, Nat.mod_one]
  | k + 1, n => by
    rw [be, val, be_len, val_be k n, Nat.pow_succ, Nat.mod_mul]
    rw [Nat.mul_comm]; omega
theorem be_mod : ∀ k m n, n % 256 ^ k = m % 256 ^ k → be k n = be k m
  | 0, _, _, _ => rfl
  | k + 1, m, n, h => by
    rw [Nat.pow_succ] at h
    have h1 : n % 256 ^ k = m % 256 ^ k := by
      rw [← Nat.mod_mul_right_mod n (256 ^ k) 256, h, Nat.mod_mul_right_mod]
    have h2 : n / 256 ^ k % 256 = m / 256 ^ k % 256 := by
      have e := h
      rw [Nat.mod_mul, Nat.mod_mul, h1] at e
      have hp : 0 < 256 ^ k := Nat.pow_pos (by omega)
      exact Nat.eq_of_mul_eq_mul_left hp (by omega)
    rw [be, be, h2, be_mod k m n h1]
theorem be_val : ∀ l : List Nat, (∀ x ∈ l, x < 256) → be l.length (val l) = l
  | [], _ => rfl
  | x :: l, h => by
    have h1 := val_lt l fun y hy => h y (List.mem_cons_of_mem _ hy)
    have h2 := h x (List.mem_cons_self ..)
    have hp : 0 < 256 ^ l.length := Nat.pow_pos (by omega)
    rw [List.length_cons, be, val]
    have e1 : (x * 256 ^ l.length + val l) / 256 ^ l.length = x := by
      rw [Nat.mul_comm, Nat.mul_add_div hp, Nat.div_eq_of_lt h1, Nat.add_zero]
    rw [e1, Nat.mod_eq_of_lt h2]
    congr 1
    rw [be_mod l.length (val l) _ (by rw [Nat.mul_comm, Nat.mul_add_mod])]
    exact be_val l fun y hy => h y (List.mem_cons_of_mem _ hy)
theorem val_app : ∀ a b : List Nat, val (a ++ b) = val a * 256 ^ b.length + val b
  | [], b => by simp [val]
  | x :: a, b => by
    rw [List.cons_append, val, val, val_app a b, List.length_append, Nat.pow_add, Nat.add_mul, Nat.mul_assoc, Nat.add_assoc]
theorem val_one (x : Nat) : val [x] = x := by simp [val]
theorem val_snoc (a : List Nat) (x : Nat) : val (a ++ [x]) = val a * 256 + x := by rw [val_app, val_one]; simp
theorem all_lt {l : List Nat} (h : ∀ j, gt l j < 256) : ∀ x ∈ l, x < 256 := by
  intro x hx
  obtain ⟨i, hi, e⟩ := List.getElem_of_mem hx
  have := h i
  unfold gt at this
  rw [List.getD_eq_getElem?_getD, List.getElem?_eq_getElem hi] at this
  rw [← e]; exact this

/-- the number that stands at a place -/
def num (b : List Nat) (p k : Nat) : Nat := val ((b.drop p).take k)
theorem num_succ (b : List Nat) (p k : Nat) (h : p + k < b.length) : num b p (k + 1) = num b p k * 256 + gt b (p + k) := by
  unfold num
  rw [List.take_succ, val_app]
  have : (b.drop p)[k]? = some (gt b (p + k)) := by
    rw [List.getElem?_drop]; unfold gt; rw [List.getD_eq_getElem?_getD, List.getElem?_eq_getElem h]; rfl
  rw [this]; simp [val]
theorem num_zero (b : List Nat) (p : Nat) : num b p 0 = 0 := by simp [num, val]
theorem num_lt (b : List Nat) (hb : ∀ j, gt b j < 256) (p k : Nat) (h : p + k ≤ b.length) : num b p k < 256 ^ k := by
  have h1 : ((b.drop p).take k).length = k := by rw [List.length_take, List.length_drop]; omega
  have := val_lt ((b.drop p).take k) (all_lt (take_lt (drop_lt hb p) k))
  rw [h1] at this; exact this
theorem num_be (b : List Nat) (hb : ∀ j, gt b j < 256) (p k : Nat) (h : p + k ≤ b.length) : be k (num b p k) = (b.drop p).take k := by
  have h1 : ((b.drop p).take k).length = k := by rw [List.length_take, List.length_drop]; omega
  have := be_val ((b.drop p).take k) (all_lt (take_lt (drop_lt hb p) k))
  rw [h1] at this; exact this

/-- classes of lengths -/
def szB (n : Nat) : Nat := if n < 64 then 1 else if n < 16384 then 2 else 4
def mark (k : Nat) : Nat := if k = 1 then 0 else if k = 2 then 16384 else 2147483648
def least (k : Nat) : Nat := if k = 1 then 0 else if k = 2 then 64 else 16384
def cls (x : Nat) : Nat := if x < 64 then 1 else if x < 128 then 2 else 4
def lenB (n : Nat) : List Nat := be (szB n) (n + mark (szB n))
theorem lenB_len (n : Nat) : (lenB n).length = szB n := be_len _ _
theorem lenB_lt (n : Nat) : ∀ j, gt (lenB n) j < 256 := be_lt _ _
theorem szB_cases (n : Nat) : (n < 64 ∧ szB n = 1) ∨ (64 ≤ n ∧ n < 16384 ∧ szB n = 2) ∨ (16384 ≤ n ∧ szB n = 4) := by
  unfold szB
  by_cases h1 : n < 64
  · exact .inl ⟨h1, if_pos h1⟩
  · by_cases h2 : n < 16384
    · exact .inr (.inl ⟨by omega, h2, by rw [if_neg h1, if_pos h2]⟩)
    · exact .inr (.inr ⟨by omega, by rw [if_neg h1, if_neg h2]⟩)
theorem cls_cases (x : Nat) : (x < 64 ∧ cls x = 1) ∨ (64 ≤ x ∧ x < 128 ∧ cls x = 2) ∨ (128 ≤ x ∧ cls x = 4) := by
  unfold cls
  by_cases h1 : x < 64
  · exact .inl ⟨h1, if_pos h1⟩
  · by_cases h2 : x < 128
    · exact .inr (.inl ⟨by omega, h2, by rw [if_neg h1, if_pos h2]⟩)
    · exact .inr (.inr ⟨by omega, by rw [if_neg h1, if_neg h2]⟩)
theorem szB_pos (n : Nat) : 0 < szB n ∧ szB n ≤ 4 := by rcases szB_cases n with h | h | h <;> omega
/-- the number of a length's bytes -/
theorem lenB_val (n : Nat) (h : n < 1073741824) : val (lenB n) = n + mark (szB n) := by
  unfold lenB
  rw [val_be]
  apply Nat.mod_eq_of_lt
  rcases szB_cases n with ⟨h1, e⟩ | ⟨h1, h2, e⟩ | ⟨h1, e⟩ <;> rw [e] <;> simp only [mark] <;> simp <;> omega
theorem lenB_head (n : Nat) (h : n < 1073741824) : gt (lenB n) 0 < 192 ∧ cls (gt (lenB n) 0) = szB n := by
  unfold lenB
  rw [gt_be _ _ _ (szB_pos n).1]
  rcases szB_cases n with ⟨h1, e⟩ | ⟨h1, h2, e⟩ | ⟨h1, e⟩ <;> rw [e] <;> simp only [mark] <;> simp
  · have : n % 256 = n := by omega
    rw [this]; exact ⟨by omega, if_pos h1⟩
  · have h3 : 64 ≤ (n + 16384) / 256 % 256 ∧ (n + 16384) / 256 % 256 < 128 := by omega
    exact ⟨by omega, by unfold cls; rw [if_neg (by omega), if_pos (by omega)]⟩
  · have h3 : 128 ≤ (n + 2147483648) / 16777216 % 256 ∧ (n + 2147483648) / 16777216 % 256 < 192 := by omega
    exact ⟨by omega, by unfold cls; rw [if_neg (by omega), if_neg (by omega)]⟩

/-- the length that stands at a place: it, the place behind, the error -/
def lenAt (b : List Nat) (p : Nat) : Nat × Nat × Nat :=
  if b.length ≤ p then (0, 0, 111) else if 192 ≤ gt b p then (0, 0, 112) else if b.length < p + cls (gt b p) then (0, 0, 111)
  else if num b p (cls (gt b p)) < least (cls (gt b p)) + mark (cls (gt b p)) then (0, 0, 112) else (num b p (cls (gt b p)) - mark (cls (gt b p)), p + cls (gt b p), 0)
def txAt (b : List Nat) (p : Nat) : Nat × Nat × Nat :=
  if (lenAt b p).2.2 ≠ 0 then (0, 0, (lenAt b p).2.2) else if 1048576 < (lenAt b p).1 then (0, 0, 2) else if b.length < (lenAt b p).2.1 + (lenAt b p).1 then (0, 0, 111)
  else ((lenAt b p).2.1, (lenAt b p).2.1 + (lenAt b p).1, 0)
def txI (b : List Nat) (x : Int) : Nat × Nat × Nat := if x < 0 ∨ (b.length : Int) < x then (0, 0, 1) else txAt b x.toNat
def cut (b : List Nat) (fr to : Nat) : List Nat := (b.drop fr).take (to - fr)
def txB (s : List Nat) : List Nat := lenB s.length ++ s
def cat (l : List (List Nat)) : List Nat := (l.map txB).flatten
theorem txB_len (s : List Nat) : (txB s).length = szB s.length + s.length := by unfold txB; rw [List.length_append, lenB_len]
theorem txB_lt {s : List Nat} (h : ∀ j, gt s j < 256) : ∀ j, gt (txB s) j < 256 := gt_append_lt (lenB_lt _) h
theorem cat_lt {l : List (List Nat)} (h : ∀ s ∈ l, ∀ j, gt s j < 256) : ∀ j, gt (cat l) j < 256 := by
  refine gt_lt_of_mem fun x hx => ?_
  unfold cat at hx
  obtain ⟨t, ht, hxt⟩ := List.mem_flatten.1 hx
  obtain ⟨s, hs, rfl⟩ := List.mem_map.1 ht
  exact all_lt (txB_lt (h s hs)) x hxt
theorem cat_append (a b : List (List Nat)) : cat (a ++ b) = cat a ++ cat b := by unfold cat; rw [List.map_append, List.flatten_append]
theorem cat_one (s : List Nat) : cat [s] = txB s := by simp [cat]
theorem cat_cons (s : List Nat) (l : List (List Nat)) : cat (s :: l) = txB s ++ cat l := by simp [cat]
theorem cat_nil : cat [] = [] := rfl
theorem cut_len (b : List Nat) (fr to : Nat) (h1 : fr ≤ to) (h2 : to ≤ b.length) : (cut b fr to).length = to - fr := by
  unfold cut; rw [List.length_take, List.length_drop]; omega
theorem cut_lt {b : List Nat} (h : ∀ j, gt b j < 256) (fr to : Nat) : ∀ j, gt (cut b fr to) j < 256 := take_lt (drop_lt h fr) _

theorem lenAt_err (b : List Nat) (p : Nat) : (lenAt b p).2.2 = 0 ∨ (lenAt b p).2.2 = 111 ∨ (lenAt b p).2.2 = 112 := by
  unfold lenAt
  split
  · exact .inr (.inl rfl)
  · split
    · exact .inr (.inr rfl)
    · split
      · exact .inr (.inl rfl)
      · split
        · exact .inr (.inr rfl)
        · exact .inl rfl
/-- a length that is read is written as it stood -/
theorem lenAt_ok {b : List Nat} (hb : ∀ j, gt b j < 256) {p : Nat} (h : (lenAt b p).2.2 = 0) :
    p < (lenAt b p).2.1 ∧ (lenAt b p).2.1 ≤ b.length ∧ (lenAt b p).1 < 1073741824 ∧ lenB (lenAt b p).1 = cut b p (lenAt b p).2.1 ∧ (lenAt b p).2.1 = p + szB (lenAt b p).1 := by
  unfold lenAt at h ⊢
  by_cases h1 : b.length ≤ p
  · rw [if_pos h1] at h; cases h
  rw [if_neg h1] at h ⊢
  by_cases h2 : 192 ≤ gt b p
  · rw [if_pos h2] at h; cases h
  rw [if_neg h2] at h ⊢
  by_cases h3 : b.length < p + cls (gt b p)
  · rw [if_pos h3] at h; cases h
  rw [if_neg h3] at h ⊢
  by_cases h4 : num b p (cls (gt b p)) < least (cls (gt b p)) + mark (cls (gt b p))
  · rw [if_pos h4] at h; cases h
  rw [if_neg h4] at h ⊢
  dsimp only
  have hn := num_lt b hb p (cls (gt b p)) (by omega)
  have hbe := num_be b hb p (cls (gt b p)) (by omega)
  have hk : 0 < cls (gt b p) := by rcases cls_cases (gt b p) with h | h | h <;> omega
  have hup : num b p (cls (gt b p)) < (gt b p + 1) * 256 ^ (cls (gt b p) - 1) := by
    have h0 : (b.drop p).take (cls (gt b p)) = gt b p :: (b.drop (p + 1)).take (cls (gt b p) - 1) := by
      obtain ⟨k, hk'⟩ : ∃ k, cls (gt b p) = k + 1 := ⟨cls (gt b p) - 1, by omega⟩
      rw [hk', List.drop_eq_getElem_cons (show p < b.length by omega), List.take_succ_cons]
      congr 1
      unfold gt; rw [List.getD_eq_getElem?_getD, List.getElem?_eq_getElem (show p < b.length by omega)]; rfl
    have hl : ((b.drop (p + 1)).take (cls (gt b p) - 1)).length = cls (gt b p) - 1 := by rw [List.length_take, List.length_drop]; omega
    have h1 := val_lt ((b.drop (p + 1)).take (cls (gt b p) - 1)) (all_lt (take_lt (drop_lt hb _) _))
    rw [hl] at h1
    unfold num
    rw [h0, val, hl, Nat.add_mul]
    omega
  have hlo : gt b p * 256 ^ (cls (gt b p) - 1) ≤ num b p (cls (gt b p)) := by
    have h0 : (b.drop p).take (cls (gt b p)) = gt b p :: (b.drop (p + 1)).take (cls (gt b p) - 1) := by
      obtain ⟨k, hk'⟩ : ∃ k, cls (gt b p) = k + 1 := ⟨cls (gt b p) - 1, by omega⟩
      rw [hk', List.drop_eq_getElem_cons (show p < b.length by omega), List.take_succ_cons]
      congr 1
      unfold gt; rw [List.getD_eq_getElem?_getD, List.getElem?_eq_getElem (show p < b.length by omega)]; rfl
    have hl : ((b.drop (p + 1)).take (cls (gt b p) - 1)).length = cls (gt b p) - 1 := by rw [List.length_take, List.length_drop]; omega
    unfold num
    rw [h0, val, hl]
    omega
  generalize num b p (cls (gt b p)) = N at *
  have key : szB (N - mark (cls (gt b p))) = cls (gt b p) ∧ N - mark (cls (gt b p)) + mark (cls (gt b p)) = N ∧ N - mark (cls (gt b p)) < 1073741824 := by
    rcases cls_cases (gt b p) with ⟨h5, e⟩ | ⟨h5, h6, e⟩ | ⟨h5, e⟩ <;> rw [e] at h4 hup hlo ⊢ <;> simp only [mark, least] at h4 hup hlo ⊢ <;> simp at h4 hup hlo ⊢
    · refine ⟨by unfold szB; rw [if_pos (by omega)], by omega⟩
    · refine ⟨by unfold szB; rw [if_neg (by omega), if_pos (by omega)], by omega, by omega⟩
    · refine ⟨by unfold szB; rw [if_neg (by omega), if_neg (by omega)], by omega, by omega⟩
  obtain ⟨k1, k2, k3⟩ := key
  refine ⟨by omega, by omega, k3, ?_, by rw [k1]⟩
  unfold lenB
  rw [k1, k2, hbe]
  unfold cut
  rw [Nat.add_sub_cancel_left]
theorem take_app (b : List Nat) (p m k : Nat) : cut b p (p + m) ++ cut b (p + m) (p + m + k) = cut b p (p + m + k) := by
  unfold cut
  rw [Nat.add_sub_cancel_left, Nat.add_sub_cancel_left, show p + m + k - p = m + k by omega, List.take_add, List.drop_drop]
/-- a text that is read is written as it stood -/
theorem txAt_ok {b : List Nat} (hb : ∀ j, gt b j < 256) {p : Nat} (h : (txAt b p).2.2 = 0) :
    p < (txAt b p).1 ∧ (txAt b p).1 ≤ (txAt b p).2.1 ∧ (txAt b p).2.1 ≤ b.length ∧ (txAt b p).2.1 - (txAt b p).1 ≤ 1048576 ∧
    txB (cut b (txAt b p).1 (txAt b p).2.1) = cut b p (txAt b p).2.1 := by
  unfold txAt at h ⊢
  by_cases h1 : (lenAt b p).2.2 ≠ 0
  · rw [if_pos h1] at h; exact absurd h h1
  rw [if_neg h1] at h ⊢
  by_cases h2 : 1048576 < (lenAt b p).1
  · rw [if_pos h2] at h; cases h
  rw [if_neg h2] at h ⊢
  by_cases h3 : b.length < (lenAt b p).2.1 + (lenAt b p).1
  · rw [if_pos h3] at h; cases h
  rw [if_neg h3] at h ⊢
  obtain ⟨k1, k2, k3, k4, k5⟩ := lenAt_ok hb (p := p) (by omega)
  refine ⟨k1, by show _ ≤ _ + _; omega, by show _ + _ ≤ _; omega, by show _ + _ - _ ≤ _; omega, ?_⟩
  show txB (cut b (lenAt b p).2.1 ((lenAt b p).2.1 + (lenAt b p).1)) = cut b p ((lenAt b p).2.1 + (lenAt b p).1)
  unfold txB
  rw [cut_len _ _ _ (by omega) (by omega), Nat.add_sub_cancel_left, k4]
  rw [k5]
  exact take_app b p _ _

theorem drop_pre (pre x : List Nat) : (pre ++ x).drop pre.length = x := by simp
theorem gt_pre (pre x : List Nat) (j : Nat) : gt (pre ++ x) (pre.length + j) = gt x j := by rw [← gt_drop, drop_pre]
theorem lenAt_put (pre s post : List Nat) (hs : s.length ≤ 1048576) : lenAt (pre ++ (txB s ++ post)) pre.length = (s.length, pre.length + szB s.length, 0) := by
  obtain ⟨h1, h2⟩ := lenB_head s.length (by omega)
  have hp := szB_pos s.length
  have hg : gt (pre ++ (txB s ++ post)) pre.length = gt (lenB s.length) 0 := by
    have := gt_pre pre (txB s ++ post) 0
    rw [Nat.add_zero] at this
    rw [this]; unfold txB
    rw [List.append_assoc, gt_append, if_pos (by rw [lenB_len]; omega)]
  have hl : (pre ++ (txB s ++ post)).length = pre.length + (szB s.length + s.length + post.length) := by rw [List.length_append, List.length_append, txB_len]
  have hn : num (pre ++ (txB s ++ post)) pre.length (szB s.length) = s.length + mark (szB s.length) := by
    unfold num
    rw [drop_pre, ← lenB_val s.length (by omega)]
    unfold txB
    rw [List.append_assoc, List.take_append_of_le_length (by rw [lenB_len]; omega), List.take_of_length_le (by rw [lenB_len]; omega)]
  unfold lenAt
  rw [if_neg (by rw [hl]; omega), hg, if_neg (by omega), h2, if_neg (by rw [hl]; omega), hn]
  rw [if_neg, Nat.add_sub_cancel]
  rcases szB_cases s.length with ⟨h5, e⟩ | ⟨h5, h6, e⟩ | ⟨h5, e⟩ <;> rw [e] <;> simp only [mark, least] <;> simp <;> omega
theorem txAt_put (pre s post : List Nat) (hs : s.length ≤ 1048576) : txAt (pre ++ (txB s ++ post)) pre.length = (pre.length + szB s.length, pre.length + (txB s).length, 0) := by
  have h := lenAt_put pre s post hs
  have hl : (pre ++ (txB s ++ post)).length = pre.length + (szB s.length + s.length + post.length) := by rw [List.length_append, List.length_append, txB_len]
  unfold txAt
  rw [h]
  dsimp only
  rw [if_neg (by simp), if_neg (by omega), if_neg (by rw [hl]; omega), txB_len, Nat.add_assoc]
theorem cut_put (pre s post : List Nat) : cut (pre ++ (txB s ++ post)) (pre.length + szB s.length) (pre.length + (txB s).length) = s := by
  unfold cut
  rw [← List.drop_drop, drop_pre, txB_len]
  unfold txB
  rw [List.append_assoc, List.drop_append_of_le_length (by rw [lenB_len]; omega), List.drop_of_length_le (by rw [lenB_len]; omega), List.nil_append, show pre.length + (szB s.length + s.length) - (pre.length + szB s.length) = s.length by omega]
  simp

/-- the texts that stand one behind the other -/
def txs (b : List Nat) : Nat → Nat → List (List Nat) → List (List Nat) × Nat
  | 0, _, acc => (acc, 0)
  | f + 1, p, acc => if b.length ≤ p then (acc, 0) else if (txAt b p).2.2 ≠ 0 then ([], (txAt b p).2.2) else txs b f (txAt b p).2.1 (acc ++ [cut b (txAt b p).1 (txAt b p).2.1])
def textsOf (b : List Nat) : List (List Nat) × Nat := txs b b.length 0 []
theorem cut_zero (b : List Nat) (to : Nat) : cut b 0 to = b.take to := by simp [cut]
theorem cut_join (b : List Nat) (p q : Nat) (h : p ≤ q) : b.take p ++ cut b p q = b.take q := by
  have := take_app b 0 p (q - p)
  rw [Nat.zero_add, cut_zero, show p + (q - p) = q by omega, cut_zero] at this
  exact this
theorem txs_ok {b : List Nat} (hb : ∀ j, gt b j < 256) : ∀ f p acc, b.length - p ≤ f → p ≤ b.length → cat acc = b.take p → (txs b f p acc).2 = 0 → cat (txs b f p acc).1 = b := by
  intro f
  induction f with
  | zero => intro p acc h1 h2 h3 h4; show cat acc = b; rw [h3, List.take_of_length_le (by omega)]
  | succ f ih =>
    intro p acc h1 h2 h3 h4
    unfold txs at h4 ⊢
    by_cases h5 : b.length ≤ p
    · rw [if_pos h5]; show cat acc = b; rw [h3, List.take_of_length_le (by omega)]
    rw [if_neg h5] at h4 ⊢
    by_cases h6 : (txAt b p).2.2 ≠ 0
    · rw [if_pos h6] at h4; exact absurd h4 h6
    rw [if_neg h6] at h4 ⊢
    obtain ⟨k1, k2, k3, k4, k5⟩ := txAt_ok hb (p := p) (by omega)
    refine ih _ _ (by omega) k3 ?_ h4
    rw [cat_append, cat_one, h3, k5]
    exact cut_join b p _ (by omega)
theorem textsOf_ok {b : List Nat} (hb : ∀ j, gt b j < 256) (h : (textsOf b).2 = 0) : cat (textsOf b).1 = b :=
  txs_ok hb _ _ _ (by omega) (by omega) rfl h
theorem txs_put : ∀ (l : List (List Nat)) (pre : List Nat) (f : Nat) (acc : List (List Nat)), (∀ s ∈ l, s.length ≤ 1048576) → (cat l).length ≤ f → txs (pre ++ cat l) f pre.length acc = (acc ++ l, 0)
  | [], pre, f, acc, _, _ => by
    cases f with
    | zero => simp [txs]
    | succ f => unfold txs; rw [if_pos (by rw [cat_nil]; simp)]; simp
  | s :: l, pre, f, acc, h, hf => by
    rw [cat_cons, List.length_append, txB_len] at hf
    have hp := szB_pos s.length
    cases f with
    | zero => omega
    | succ f =>
      have h1 := txAt_put pre s (cat l) (h s (List.mem_cons_self ..))
      have h2 := cut_put pre s (cat l)
      unfold txs
      rw [cat_cons, if_neg (by rw [List.length_append, List.length_append, txB_len]; omega), h1]
      dsimp only
      rw [if_neg (by simp), h2, ← List.append_assoc, ← List.length_append]
      rw [txs_put l (pre ++ txB s) f (acc ++ [s]) (fun t ht => h t (List.mem_cons_of_mem _ ht)) (by omega)]
      simp
theorem textsOf_put (l : List (List Nat)) (h : ∀ s ∈ l, s.length ≤ 1048576) : textsOf (cat l) = (l, 0) := by
  have := txs_put l [] (cat l).length [] h (Nat.le_refl _)
  simpa [textsOf] using this
theorem mem_len {l : List (List Nat)} {s : List Nat} (h : s ∈ l) : s.length ≤ (cat l).length := by
  induction l with
  | nil => cases h
  | cons t l ih =>
    rw [cat_cons, List.length_append, txB_len]
    rcases List.mem_cons.1 h with rfl | h
    · omega
    · have := ih h; omega

/-- what is told of a text, of a list -/
def getT (b : List Nat) (x : Int) : List Nat × Nat × Nat := if (txI b x).2.2 ≠ 0 then ([], 0, (txI b x).2.2) else (cut b (txI b x).1 (txI b x).2.1, (txI b x).2.1, 0)
def getL (b : List Nat) (x : Int) : List (List Nat) × Nat × Nat :=
  if (getT b x).2.2 ≠ 0 then ([], 0, (getT b x).2.2) else if (textsOf (getT b x).1).2 ≠ 0 then ([], 0, (textsOf (getT b x).1).2) else ((textsOf (getT b x).1).1, (getT b x).2.1, 0)
def putT (s : List Nat) : List Nat × Nat := if 1048576 < s.length then ([], 2) else (txB s, 0)
def putL (l : List (List Nat)) : List Nat × Nat := if 1048576 < (cat l).length then ([], 2) else (txB (cat l), 0)
theorem txI_zero (b : List Nat) : txI b 0 = txAt b 0 := by unfold txI; rw [if_neg (by omega)]; rfl
theorem txI_nat (b : List Nat) (p : Nat) (h : p ≤ b.length) : txI b p = txAt b p := by unfold txI; rw [if_neg (by omega)]; simp
theorem getT_kept {b : List Nat} (hb : ∀ j, gt b j < 256) (h : (getT b 0).2.2 = 0) : (getT b 0).2.1 ≤ b.length ∧ putT (getT b 0).1 = (b.take (getT b 0).2.1, 0) := by
  unfold getT at h ⊢
  rw [txI_zero] at h ⊢
  by_cases h1 : (txAt b 0).2.2 ≠ 0
  · rw [if_pos h1] at h; exact absurd h h1
  rw [if_neg h1] at h ⊢
  obtain ⟨k1, k2, k3, k4, k5⟩ := txAt_ok hb (p := 0) (by omega)
  refine ⟨k3, ?_⟩
  unfold putT
  dsimp only
  rw [if_neg (by rw [cut_len _ _ _ k2 k3]; omega), k5, cut_zero]
theorem getL_kept {b : List Nat} (hb : ∀ j, gt b j < 256) (h : (getL b 0).2.2 = 0) : (getL b 0).2.1 ≤ b.length ∧ putL (getL b 0).1 = (b.take (getL b 0).2.1, 0) := by
  unfold getL at h ⊢
  by_cases h1 : (getT b 0).2.2 ≠ 0
  · rw [if_pos h1] at h; exact absurd h h1
  rw [if_neg h1] at h ⊢
  by_cases h2 : (textsOf (getT b 0).1).2 ≠ 0
  · rw [if_pos h2] at h; exact absurd h h2
  rw [if_neg h2] at h ⊢
  obtain ⟨k1, k2⟩ := getT_kept hb (by omega)
  refine ⟨k1, ?_⟩
  have hlt : ∀ j, gt (getT b 0).1 j < 256 := by
    unfold getT
    split
    · exact fun j => by simp [gt]
    · exact cut_lt hb _ _
  have h3 := textsOf_ok hlt (by omega)
  dsimp only
  unfold putL
  rw [h3]
  exact k2
theorem getL_zero (b : List Nat) (x : Int) (h : (getL b x).2.2 ≠ 0) : (getL b x).1 = [] ∧ (getL b x).2.1 = 0 := by
  unfold getL at h ⊢
  split
  · exact ⟨rfl, rfl⟩
  · split
    · exact ⟨rfl, rfl⟩
    · rename_i h1 h2; rw [if_neg h1, if_neg h2] at h; exact absurd rfl h
theorem getT_put (pre s post : List Nat) (hs : s.length ≤ 1048576) : getT (pre ++ (txB s ++ post)) pre.length = (s, pre.length + (txB s).length, 0) := by
  have h1 := txAt_put pre s post hs
  have h2 := cut_put pre s post
  unfold getT
  rw [txI_nat _ _ (by simp), h1]
  dsimp only
  rw [if_neg (by simp), h2]
theorem getL_put (pre post : List Nat) (l : List (List Nat)) (hl : (cat l).length ≤ 1048576) : getL (pre ++ (txB (cat l) ++ post)) pre.length = (l, pre.length + (txB (cat l)).length, 0) := by
  have h1 := getT_put pre (cat l) post hl
  have h2 := textsOf_put l fun s hs => by have := mem_len hs; omega
  unfold getL
  rw [h1]
  dsimp only
  rw [if_neg (by simp), h2]
  simp
/-- unlike texts: no beginning of one another -/
theorem txB_apart {s t x y : List Nat} (hs : s.length ≤ 1048576) (ht : t.length ≤ 1048576) (h : txB s ++ x = txB t ++ y) : s = t := by
  have h1 := getT_put [] s x hs
  have h2 := getT_put [] t y ht
  rw [List.nil_append] at h1 h2
  rw [h, h2] at h1
  exact (congrArg Prod.fst h1).symm
theorem lsB_apart {l m : List (List Nat)} {x y : List Nat} (hl : (cat l).length ≤ 1048576) (hm : (cat m).length ≤ 1048576) (h : txB (cat l) ++ x = txB (cat m) ++ y) : l = m := by
  have h1 := getL_put [] x l hl
  have h2 := getL_put [] y m hm
  rw [List.nil_append] at h1 h2
  rw [h, h2] at h1
  exact (congrArg Prod.fst h1).symm
/-- cut anywhere it is none -/
theorem txAt_cut (s : List Nat) (k : Nat) (hs : s.length ≤ 1048576) (hk : k < (txB s).length) : txAt ((txB s).take k) 0 = (0, 0, 111) := by
  obtain ⟨h1, h2⟩ := lenB_head s.length (by omega)
  have hp := szB_pos s.length
  have hlen : ((txB s).take k).length = k := by rw [List.length_take]; omega
  rw [txB_len] at hk
  have hfull := lenAt_put [] s [] hs
  rw [List.nil_append, List.append_nil, List.length_nil, Nat.zero_add] at hfull
  by_cases h0 : k = 0
  · subst h0
    unfold txAt lenAt
    simp
  have hg : gt ((txB s).take k) 0 = gt (lenB s.length) 0 := by
    rw [gt_take _ _ _ (by omega)]; unfold txB; rw [gt_append, if_pos (by rw [lenB_len]; omega)]
  by_cases h3 : k < szB s.length
  · have : lenAt ((txB s).take k) 0 = (0, 0, 111) := by
      unfold lenAt
      rw [if_neg (by rw [hlen]; omega), hg, if_neg (by omega), h2, if_pos (by rw [hlen]; omega)]
    unfold txAt
    rw [this]
    simp
  · have hn : num ((txB s).take k) 0 (szB s.length) = s.length + mark (szB s.length) := by
      unfold num
      rw [List.drop_zero, List.take_take, Nat.min_eq_left (by omega), ← lenB_val s.length (by omega)]
      unfold txB
      rw [List.take_append_of_le_length (by rw [lenB_len]; omega), List.take_of_length_le (by rw [lenB_len]; omega)]
    have : lenAt ((txB s).take k) 0 = (s.length, szB s.length, 0) := by
      unfold lenAt
      rw [if_neg (by rw [hlen]; omega), hg, if_neg (by omega), h2, if_neg (by rw [hlen]; omega), hn, if_neg, Nat.add_sub_cancel, Nat.zero_add]
      rcases szB_cases s.length with ⟨h5, e⟩ | ⟨h5, h6, e⟩ | ⟨h5, e⟩ <;> rw [e] <;> simp only [mark, least] <;> simp <;> omega
    unfold txAt
    rw [this]
    dsimp only
    rw [if_neg (by simp), if_neg (by omega), if_pos (by rw [hlen]; omega)]
theorem getL_cut (s : List Nat) (k : Nat) (hs : s.length ≤ 1048576) (hk : k < (txB s).length) : getL ((txB s).take k) 0 = ([], 0, 111) := by
  have h := txAt_cut s k hs hk
  unfold getL getT
  rw [txI_zero, h]
  simp
end Go.Proofs.YthjoafldndgahaaDoor.Wr
