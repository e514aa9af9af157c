/- Plain: numbers of twelve bits out of bytes, three bytes for two; the polynomial that is drawn of numbers. -/
import Derived.Test.YtdkhiooiakdecaaDoorRKpPlain
import Derived.Test.YtdkhiooiakdecaaDoorRKecPlain
namespace Go.Proofs.YtdkhiooiakdecaaDoorR.Kp
set_option linter.all false

def tri (f : Nat → Nat) (k : Nat) : Nat := f (3 * k) + 256 * f (3 * k + 1) + 65536 * f (3 * k + 2)
theorem tri_lt {f : Nat → Nat} (hf : ∀ i, f i < 2 ^ 8) (k : Nat) : tri f k < 2 ^ 24 := by
  unfold tri
  have h1 := hf (3 * k); have h2 := hf (3 * k + 1); have h3 := hf (3 * k + 2)
  omega
theorem num_tri (f : Nat → Nat) : ∀ m, num 8 f (3 * m) = num 24 (tri f) m
  | 0 => rfl
  | m + 1 => by
    rw [num_succ, ← num_tri f m, show 3 * (m + 1) = 3 * m + 1 + 1 + 1 by omega, num_succ, num_succ, num_succ]
    rw [show 8 * (3 * m + 1 + 1) = 8 * (3 * m) + 16 by omega, show 8 * (3 * m + 1) = 8 * (3 * m) + 8 by omega, show 24 * m = 8 * (3 * m) by omega, Nat.pow_add, Nat.pow_add]
    unfold tri
    generalize 2 ^ (8 * (3 * m)) = B
    rw [show (2 : Nat) ^ 8 = 256 from rfl, show (2 : Nat) ^ 16 = 65536 from rfl, show 3 * m + 1 + 1 = 3 * m + 2 by omega, Nat.add_mul, Nat.add_mul]
    rw [Nat.mul_comm B 256, Nat.mul_comm B 65536, ← Nat.mul_assoc, ← Nat.mul_assoc, Nat.mul_comm (f (3 * m + 1)) 256, Nat.mul_comm (f (3 * m + 2)) 65536]
    omega
/-- the candidates, by bytes -/
def cand (f : Nat → Nat) (k : Nat) : Nat := if k % 2 = 0 then f (3 * (k / 2)) + 256 * (f (3 * (k / 2) + 1) % 16) else f (3 * (k / 2) + 1) / 16 + 16 * f (3 * (k / 2) + 2)
theorem grp_cand {f : Nat → Nat} (hf : ∀ i, f i < 2 ^ 8) (m k : Nat) (hk : k < 2 * m) : grp 12 (num 8 f (3 * m)) k = cand f k := by
  have hd := num_dig (tri_lt hf) m (k / 2) (by omega)
  rw [← num_tri] at hd
  unfold grp at hd ⊢
  unfold cand
  generalize num 8 f (3 * m) = M at hd ⊢
  have h1 := hf (3 * (k / 2)); have h2 := hf (3 * (k / 2) + 1); have h3 := hf (3 * (k / 2) + 2)
  unfold tri at hd
  split
  · rename_i e
    rw [show 12 * k = 24 * (k / 2) by omega]
    generalize M / 2 ^ (24 * (k / 2)) = A at hd ⊢
    generalize f (3 * (k / 2)) = a at *; generalize f (3 * (k / 2) + 1) = b at *; generalize f (3 * (k / 2) + 2) = c at *
    rw [show (2 : Nat) ^ 24 = 16777216 from rfl] at hd
    rw [show (2 : Nat) ^ 12 = 4096 from rfl]
    rw [show (2 : Nat) ^ 8 = 256 from rfl] at h1 h2 h3
    omega
  · rename_i e
    rw [show 12 * k = 24 * (k / 2) + 12 by omega, Nat.pow_add, ← Nat.div_div_eq_div_mul]
    generalize M / 2 ^ (24 * (k / 2)) = A at hd ⊢
    generalize f (3 * (k / 2)) = a at *; generalize f (3 * (k / 2) + 1) = b at *; generalize f (3 * (k / 2) + 2) = c at *
    rw [show (2 : Nat) ^ 24 = 16777216 from rfl] at hd
    rw [show (2 : Nat) ^ 12 = 4096 from rfl]
    rw [show (2 : Nat) ^ 8 = 256 from rfl] at h1 h2 h3
    omega
theorem cand_lt {f : Nat → Nat} (hf : ∀ i, f i < 2 ^ 8) (k : Nat) : cand f k < 4096 := by
  unfold cand
  have h1 := hf (3 * (k / 2)); have h2 := hf (3 * (k / 2) + 1); have h3 := hf (3 * (k / 2) + 2)
  split <;> omega
theorem cand_shift {f g : Nat → Nat} (j k : Nat) (h : ∀ t, t < 168 → g t = f (168 * j + t)) (hk : k < 112) : cand g k = cand f (112 * j + k) := by
  unfold cand
  have e1 : (112 * j + k) % 2 = k % 2 := by omega
  have e2 : (112 * j + k) / 2 = 56 * j + k / 2 := by omega
  rw [e1, e2]
  have t0 := h (3 * (k / 2)) (by omega); have t1 := h (3 * (k / 2) + 1) (by omega)
  rw [show 3 * (56 * j + k / 2) = 168 * j + 3 * (k / 2) by omega, show 168 * j + 3 * (k / 2) + 1 = 168 * j + (3 * (k / 2) + 1) by omega, show 168 * j + 3 * (k / 2) + 2 = 168 * j + (3 * (k / 2) + 2) by omega, ← t0, ← t1, ← h (3 * (k / 2) + 2) (by omega)]

/-! ### What is drawn -/
def accP (c : Nat → Nat) (n : Nat) : Nat → Int := fun i => ((Kec.gt (acc c n) i : Nat) : Int)
def drawn? (c : Nat → Nat) (n : Nat) : Bool := decide (256 ≤ (acc c n).length)
def drawV (c : Nat → Nat) (n : Nat) : Nat → Int := if 256 ≤ (acc c n).length then accP c n else fun _ => 0
def drawE (c : Nat → Nat) (n : Nat) (e : Int) : Int := if 256 ≤ (acc c n).length then 0 else e
theorem gt_prefix {l m : List Nat} (h : l <+: m) {i : Nat} (hi : i < l.length) : Kec.gt m i = Kec.gt l i := by
  obtain ⟨t, rfl⟩ := h
  unfold Kec.gt
  rw [List.getD_eq_getElem?_getD, List.getD_eq_getElem?_getD, List.getElem?_append_left hi]
theorem gt_snoc (l : List Nat) (x i : Nat) : Kec.gt (l ++ [x]) i = if i = l.length then x else Kec.gt l i := by
  unfold Kec.gt
  rw [List.getD_eq_getElem?_getD, List.getD_eq_getElem?_getD]
  split
  · rename_i e; subst e; simp
  · rename_i e
    rcases Nat.lt_or_ge i l.length with h | h
    · rw [List.getElem?_append_left h]
    · rw [List.getElem?_eq_none (by simp; omega), List.getElem?_eq_none h]
theorem gt_none {l : List Nat} {i : Nat} (h : l.length ≤ i) : Kec.gt l i = 0 := by
  unfold Kec.gt; rw [List.getD_eq_getElem?_getD, List.getElem?_eq_none h]; rfl
theorem acc_yes {c : Nat → Nat} {k : Nat} (h : c k < 3329) : acc c (k + 1) = acc c k ++ [c k] := by rw [acc_succ, if_pos h]
theorem acc_no {c : Nat → Nat} {k : Nat} (h : ¬ c k < 3329) : acc c (k + 1) = acc c k := by rw [acc_succ, if_neg h]
theorem acc_len_yes {c : Nat → Nat} {k : Nat} (h : c k < 3329) : (acc c (k + 1)).length = (acc c k).length + 1 := by rw [acc_yes h]; simp
/-- one more number: the polynomial's next place -/
theorem accP_yes {c : Nat → Nat} {k : Nat} (h : c k < 3329) (i : Nat) : accP c (k + 1) i = if i = (acc c k).length then (c k : Int) else accP c k i := by
  unfold accP; rw [acc_yes h, gt_snoc]; split <;> rfl
theorem accP_no {c : Nat → Nat} {k : Nat} (h : ¬ c k < 3329) : accP c (k + 1) = accP c k := by unfold accP; rw [acc_no h]
theorem accP_zero (c : Nat → Nat) : accP c 0 = fun _ => 0 := by funext i; rfl
/-- two hundred and fifty-six are enough -/
theorem acc_enough {c : Nat → Nat} {k n : Nat} (h : k ≤ n) (hl : (acc c k).length = 256) {i : Nat} (hi : i < 256) : accP c n i = accP c k i := by
  have := acc_grows c k (n - k)
  rw [show k + (n - k) = n by omega] at this
  unfold accP
  rw [gt_prefix this (by omega)]
theorem acc_len_mono {c : Nat → Nat} {k n : Nat} (h : k ≤ n) : (acc c k).length ≤ (acc c n).length := by
  have := acc_grows c k (n - k)
  rw [show k + (n - k) = n by omega] at this
  exact this.length_le
theorem drawV_yes {c : Nat → Nat} {k n : Nat} (h : k ≤ n) (hl : (acc c k).length = 256) {i : Nat} (hi : i < 256) : drawV c n i = accP c k i := by
  unfold drawV
  have := acc_len_mono (c := c) h
  rw [if_pos (by omega), acc_enough h hl hi]
theorem drawE_yes {c : Nat → Nat} {k n : Nat} (h : k ≤ n) (hl : (acc c k).length = 256) (e : Int) : drawE c n e = 0 := by
  unfold drawE
  have := acc_len_mono (c := c) h
  rw [if_pos (by omega)]
theorem draw_no {c : Nat → Nat} {n : Nat} (hl : (acc c n).length < 256) (e : Int) : drawV c n = (fun _ => 0) ∧ drawE c n e = e := by
  unfold drawV drawE; rw [if_neg (by omega), if_neg (by omega)]; exact ⟨rfl, rfl⟩
theorem draw_congr {c d : Nat → Nat} {n : Nat} (h : ∀ i, i < n → c i = d i) (e : Int) : drawV c n = drawV d n ∧ drawE c n e = drawE d n e := by
  unfold drawV drawE accP; rw [acc_congr n h]; exact ⟨rfl, rfl⟩
/-- the document's: once there are enough, nothing more is taken -/
theorem accP_full {c : Nat → Nat} {k : Nat} (h : 256 ≤ (acc c k).length) {i : Nat} (hi : i < 256) : accP c (k + 1) i = accP c k i := by
  by_cases hc : c k < 3329
  · rw [accP_yes hc, if_neg (by omega)]
  · rw [accP_no hc]
end Go.Proofs.YtdkhiooiakdecaaDoorR.Kp
