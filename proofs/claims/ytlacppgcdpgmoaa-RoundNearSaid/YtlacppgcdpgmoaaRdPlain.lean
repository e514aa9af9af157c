/- Plain facts on the parts of numbers modulo 8380417: no program. -/
namespace Go.Proofs.Ytlacppgcdpgmoaa.Rd
set_option linter.all false

/-- a number -/
def num (n : Int) : Int := n % 8380417
theorem num_lo (n : Int) : 0 ≤ num n := by unfold num; omega
theorem num_hi (n : Int) : num n < 8380417 := by unfold num; omega
theorem num_id {n : Int} (h : 0 ≤ n) (k : n < 8380417) : num n = n := by unfold num; omega
/-- the rests -/
def rst (n : Int) : Int := (n + 4095) % 8192 - 4095
def rsg (n : Int) : Int := (n + 261887) % 523776 - 261887
/-- the parts of a number from 0 to q - 1 -/
def ph2 (n : Int) : Int := (n - rst n) / 8192
def hi (n : Int) : Int := if n - rsg n = 8380416 then 0 else (n - rsg n) / 523776
def lo (n : Int) : Int := if n - rsg n = 8380416 then rsg n - 1 else rsg n
theorem rst_spec (n : Int) : -4095 ≤ rst n ∧ rst n ≤ 4096 ∧ n - rst n = 8192 * ph2 n := by unfold ph2 rst; omega
theorem rst_hi {n : Int} (h : 0 ≤ n) (k : n < 8380417) : 0 ≤ ph2 n ∧ ph2 n ≤ 1023 := by unfold ph2 rst; omega
/-- what is known of the parts -/
structure Cut (n h l : Int) : Prop where
  h0 : 0 ≤ h
  h1 : h ≤ 15
  l0 : -261888 ≤ l
  l1 : l ≤ 261888
  is : (n = 523776 * h + l ∧ -261888 < l) ∨ (h = 0 ∧ l < 0 ∧ n = 8380417 + l)
theorem cut_is {n : Int} (h : 0 ≤ n) (k : n < 8380417) : Cut n (hi n) (lo n) := by
  unfold hi lo rsg
  by_cases c : n - ((n + 261887) % 523776 - 261887) = 8380416
  · rw [if_pos c, if_pos c]
    exact ⟨by omega, by omega, by omega, by omega, Or.inr ⟨rfl, by omega, by omega⟩⟩
  · rw [if_neg c, if_neg c]
    exact ⟨by omega, by omega, by omega, by omega, Or.inl ⟨by omega, by omega⟩⟩
theorem cut_one {n h l h' l' : Int} (a : Cut n h l) (b : Cut n h' l') (hn : 0 ≤ n) (hk : n < 8380417) : h = h' ∧ l = l' := by
  obtain ⟨a1, a2, a3, a4, a5⟩ := a
  obtain ⟨b1, b2, b3, b4, b5⟩ := b
  rcases a5 with ⟨x, y⟩ | ⟨x, y, z⟩ <;> rcases b5 with ⟨x', y'⟩ | ⟨x', y', z'⟩ <;> constructor <;> omega
/-- what a hint tells -/
def use (t : Bool) (h l : Int) : Int := if t = false then h else if 0 < l then (h + 1) % 16 else (h + 15) % 16
theorem use_false (h l : Int) : use false h l = h := rfl
theorem use_up {h l : Int} (k : 0 < l) : use true h l = (h + 1) % 16 := by unfold use; rw [if_neg (by simp), if_pos k]
theorem use_down {h l : Int} (k : ¬ 0 < l) : use true h l = (h + 15) % 16 := by unfold use; rw [if_neg (by simp), if_neg k]
/-- P8.3, on numbers -/
theorem tells {n z s h l h' l' : Int} (hn : 0 ≤ n) (hn' : n < 8380417) (z0 : -261888 ≤ z) (z1 : z ≤ 261888) (hs : s = num (n + z)) (a : Cut n h l) (b : Cut s h' l') :
    use (decide (h' ≠ h)) h l = h' := by
  obtain ⟨a1, a2, a3, a4, a5⟩ := a
  obtain ⟨b1, b2, b3, b4, b5⟩ := b
  have hs' : s = n + z ∨ s = n + z - 8380417 ∨ s = n + z + 8380417 := by unfold num at hs; omega
  clear hs
  by_cases e : h' = h
  · rw [show decide (h' ≠ h) = false by simp [e], use_false]; exact e.symm
  · rw [show decide (h' ≠ h) = true by simp [e]]
    by_cases p : 0 < l
    · rw [use_up p]
      have f : h' = h + 1 ∨ (h = 15 ∧ h' = 0) := by
        rcases hs' with s | s | s <;> rcases a5 with ⟨x, y⟩ | ⟨x, y, w⟩ <;> rcases b5 with ⟨x', y'⟩ | ⟨x', y', w'⟩ <;> omega
      omega
    · rw [use_down p]
      have f : h' = h - 1 ∨ (h = 0 ∧ h' = 15) := by
        rcases hs' with s | s | s <;> rcases a5 with ⟨x, y⟩ | ⟨x, y, w⟩ <;> rcases b5 with ⟨x', y'⟩ | ⟨x', y', w'⟩ <;> omega
      omega
theorem tmod_pos {n m : Int} (h : 0 ≤ n) : n.tmod m = n % m := Int.tmod_eq_emod_of_nonneg h
theorem tmod_bd (n : Int) : -8380417 < n.tmod 8380417 ∧ n.tmod 8380417 < 8380417 := by
  rcases Int.le_total 0 n with h | h
  · rw [Int.tmod_eq_emod_of_nonneg h]; omega
  · have e : n.tmod 8380417 = - ((-n) % 8380417) := by
      rw [show n.tmod 8380417 = -((-n).tmod 8380417) by rw [Int.neg_tmod]; omega, Int.tmod_eq_emod_of_nonneg (by omega)]
    rw [e]; omega
theorem tmod_num (n : Int) : num n = if n.tmod 8380417 < 0 then n.tmod 8380417 + 8380417 else n.tmod 8380417 := by
  unfold num
  rcases Int.le_total 0 n with h | h
  · rw [Int.tmod_eq_emod_of_nonneg h, if_neg (by omega)]
  · have e : n.tmod 8380417 = - ((-n) % 8380417) := by
      rw [show n.tmod 8380417 = -((-n).tmod 8380417) by rw [Int.neg_tmod]; omega, Int.tmod_eq_emod_of_nonneg (by omega)]
    rw [e]
    split <;> omega
theorem tmod_twice (n : Int) : (n.tmod 8380417 + 8380417).tmod 8380417 = num n := by
  have h := tmod_bd n
  rw [tmod_pos (by omega), tmod_num]
  split <;> omega
end Go.Proofs.Ytlacppgcdpgmoaa.Rd
