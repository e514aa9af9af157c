/- Whole numbers below 2^53 as words of binary64: what they are, and sums, differences, products, order and cuts of them. Walks: words of floats, Abs, Floor, isDeep, leaves, isLeaf, isWhole. Walks: Right, parts, Index, Up, Down, Leaf, spotOf, isLeaf, Over. Walks: Index, Up, Down, Over, isLeaf, spotOf, Leaf. Walks: Down, isLeaf, spotOf, Leaf, Over. -/
import Derived.Laws.FloatArith
import Derived.Test.YtkplkfokpniflaaDoorChecked
import Derived.WalkSpells
import Derived.WalkLawsBesides
import Derived.RegionTactic
import Derived.BigRegion
import Derived.BigQuiet
import Derived.Deep.QuietTactic
import Derived.IntWalk
import Derived.Outline
import Derived.Lib.Hide
import Derived.Laws.Bits128
import Derived.Laws.ComplexArith
import Derived.Laws.Externs
namespace Go.Proofs.YtkplkfokpniflaaDoor.Fl
set_option linter.all false
set_option maxRecDepth 100000
open Ieee

/-- the word of a whole number -/
def fl (n : Nat) : Nat := double.nearest false n 0

/-- a datum stands for the whole number n -/
def Stands (d : Datum) (n : Nat) : Prop := ∃ k : Nat, d = .number false (n * 2 ^ k) (-(k : Int))

theorem log2_mul_pow (n k : Nat) (h : n ≠ 0) : (n * 2 ^ k).log2 = n.log2 + k := by
  have hp : 0 < 2 ^ k := Nat.two_pow_pos k
  have h1 := Nat.log2_self_le h
  have h2 := Nat.lt_log2_self (n := n)
  rw [Nat.log2_eq_iff (by have := Nat.mul_pos (Nat.pos_of_ne_zero h) hp; omega)]
  constructor
  · rw [Nat.pow_add]; exact Nat.mul_le_mul_right _ h1
  · rw [show n.log2 + k + 1 = (n.log2 + 1) + k by omega, Nat.pow_add]; exact Nat.mul_lt_mul_of_pos_right h2 hp

theorem log2_le (n : Nat) (h : n < 2 ^ 53) : n.log2 ≤ 52 := by
  by_cases hz : n = 0
  · subst hz; decide
  · have := (Nat.log2_lt hz).2 h; omega

theorem shl (n k : Nat) : n <<< k = n * 2 ^ k := Nat.shiftLeft_eq n k

theorem cut_none (way : Toward) (neg : Bool) (n : Nat) : way.cut neg n 0 = n := by
  unfold Toward.cut
  cases way <;> simp [Nat.mod_one]

theorem cut_whole (way : Toward) (neg : Bool) (n k d : Nat) (h : d ≤ k) : way.cut neg (n * 2 ^ k) d = n * 2 ^ (k - d) := by
  unfold Toward.cut
  by_cases hz : n = 0
  · subst hz; cases way <;> simp [shl]
  have hm : min d ((n * 2 ^ k).log2 + 2) = d := by rw [log2_mul_pow n k hz]; omega
  have e : n * 2 ^ k = n * 2 ^ (k - d) * 2 ^ d := by rw [Nat.mul_assoc, ← Nat.pow_add, Nat.sub_add_cancel h]
  have hp : 0 < 2 ^ d := Nat.two_pow_pos d
  rw [hm]
  simp only [shl, Nat.one_mul]
  rw [e, Nat.mul_div_cancel _ hp, Nat.mul_mod_left]
  cases way <;> simp

theorem sig_lo (n : Nat) (hz : n ≠ 0) (h : n < 2 ^ 53) : 2 ^ 52 ≤ n * 2 ^ (52 - n.log2) := by
  have h1 := Nat.log2_self_le hz
  have := log2_le n h
  have e : 2 ^ 52 = 2 ^ n.log2 * 2 ^ (52 - n.log2) := by rw [← Nat.pow_add]; congr 1; omega
  rw [e]; exact Nat.mul_le_mul_right _ h1
theorem sig_hi (n : Nat) (h : n < 2 ^ 53) : n * 2 ^ (52 - n.log2) < 2 ^ 53 := by
  have h1 := Nat.lt_log2_self (n := n)
  have := log2_le n h
  have e : 2 ^ 53 = 2 ^ (n.log2 + 1) * 2 ^ (52 - n.log2) := by rw [← Nat.pow_add]; congr 1; omega
  rw [e]; exact Nat.mul_lt_mul_of_pos_right h1 (Nat.two_pow_pos _)

theorem lp : double.leastPlace = -1074 := by decide
theorem bin : double.binade = 2 ^ 52 := rfl
theorem inf : double.infRung = 2047 * 2 ^ 52 := by decide
theorem sw : double.signWeight = 2 ^ 63 := rfl

/-- the rung of n halved d times, n not nought -/
def rung (n d : Nat) : Nat := (n.log2 + 1022 - d) * 2 ^ 52 + n * 2 ^ (52 - n.log2)

theorem nearest_gen (n k d : Nat) (hz : n ≠ 0) (h : n < 2 ^ 53) (hd : d ≤ 1) : double.nearest false (n * 2 ^ k) (-(k : Int) - d) = rung n d := by
  unfold Format.nearest rung
  have hp : 0 < 2 ^ k := Nat.two_pow_pos k
  have hnz : n * 2 ^ k ≠ 0 := by have := Nat.mul_pos (Nat.pos_of_ne_zero hz) hp; omega
  rw [if_neg hnz, log2_mul_pow n k hz]
  have hl := log2_le n h
  have elast : max (-(k : Int) - d + ((n.log2 + k : Nat) : Int) - (double.fractionBits : Int)) double.leastPlace = (n.log2 : Int) - 52 - d := by
    rw [lp]; simp only [double]; omega
  rw [elast]
  have ekept : Toward.even.cut false ((n * 2 ^ k) <<< ((-(k : Int) - d - ((n.log2 : Int) - 52 - d)).toNat)) (((n.log2 : Int) - 52 - d - (-(k : Int) - d)).toNat) = n * 2 ^ (52 - n.log2) := by
    by_cases hk : k ≤ 52 - n.log2
    · rw [show ((n.log2 : Int) - 52 - d - (-(k : Int) - d)).toNat = 0 by omega, cut_none, shl, show (-(k : Int) - d - ((n.log2 : Int) - 52 - d)).toNat = 52 - n.log2 - k by omega, Nat.mul_assoc, ← Nat.pow_add]
      congr 2; omega
    · rw [show (-(k : Int) - d - ((n.log2 : Int) - 52 - d)).toNat = 0 by omega, Nat.shiftLeft_zero, cut_whole _ _ _ _ _ (by omega)]
      congr 2; omega
  dsimp only
  rw [ekept, lp, bin, inf]
  have := sig_hi n h
  rw [show ((n.log2 : Int) - 52 - d - -1074).toNat = n.log2 + 1022 - d by omega]
  unfold Format.word
  simp only [Bool.false_eq_true, if_false]
  omega

theorem read_gen (c g : Nat) (h1 : 2 ^ 52 ≤ g) (h2 : g < 2 ^ 53) (hc : c < 2046) : double.read (c * 2 ^ 52 + g) = .number false g ((c : Int) - 1074) := by
  unfold Format.read
  rw [sw, bin, inf, lp]
  dsimp only
  have e1 : (c * 2 ^ 52 + g) % 2 ^ 63 = c * 2 ^ 52 + g := by omega
  have e2 : (c * 2 ^ 52 + g) / 2 ^ 63 = 0 := by omega
  have e3 : (c * 2 ^ 52 + g) / 2 ^ 52 = c + 1 := by omega
  have e4 : 2 ^ 52 + (c * 2 ^ 52 + g) % 2 ^ 52 = g := by omega
  rw [e1, e2, e3, e4, if_neg (by omega), if_pos (by omega)]
  simp
  omega

def word (n : Nat) : Nat := if n = 0 then 0 else rung n 0

theorem nearest_whole (n k : Nat) (h : n < 2 ^ 53) : double.nearest false (n * 2 ^ k) (-(k : Int)) = word n := by
  unfold word
  by_cases hz : n = 0
  · subst hz; simp [Format.nearest, Format.word]
  · rw [if_neg hz]
    simpa using nearest_gen n k 0 hz h (by omega)

theorem fl_word (n : Nat) (h : n < 2 ^ 53) : fl n = word n := by
  have := nearest_whole n 0 h
  simpa [fl] using this

theorem read_zero : double.read 0 = .number false 0 (-1074) := by
  simp only [Format.read, bin, lp, Nat.zero_div, Nat.zero_mod]
  rw [if_pos (by decide)]; rfl
theorem read_neg : double.read 9223372036854775808 = .number true 0 (-1074) := by
  simp only [Format.read, bin, lp, sw]
  rw [if_pos (by decide)]; rfl

theorem read_word (n : Nat) (h : n < 2 ^ 53) : Stands (double.read (word n)) n := by
  by_cases hz : n = 0
  · subst hz
    obtain ⟨k, hk⟩ : ∃ k : Nat, k = 1074 := ⟨_, rfl⟩
    refine ⟨k, ?_⟩
    rw [show word 0 = 0 from rfl, read_zero, Nat.zero_mul, hk]; rfl
  have hl := log2_le n h
  refine ⟨52 - n.log2, ?_⟩
  unfold word rung
  rw [if_neg hz, read_gen _ _ (sig_lo n hz h) (sig_hi n h) (by omega)]
  have e : ((n.log2 + 1022 - 0 : Nat) : Int) - 1074 = -((52 - n.log2 : Nat) : Int) := by omega
  rw [e]

theorem read_fl (n : Nat) (h : n < 2 ^ 53) : Stands (double.read (fl n)) n := by rw [fl_word n h]; exact read_word n h

theorem Stands.write {d : Datum} {n : Nat} (hs : Stands d n) (h : n < 2 ^ 53) : double.write d = fl n := by
  obtain ⟨k, rfl⟩ := hs
  rw [fl_word n h]; exact nearest_whole n k h

theorem signed_false (m u : Nat) : signed false m u = ((m * 2 ^ u : Nat) : Int) := by simp [signed, shl]
theorem signed_true (m u : Nat) : signed true m u = -((m * 2 ^ u : Nat) : Int) := by simp [signed, shl]

/-- both over one place -/
theorem scale (n k j : Nat) : n * 2 ^ k * 2 ^ ((-(k : Int) - min (-(k : Int)) (-(j : Int))).toNat) = n * 2 ^ (max k j) := by
  rw [Nat.mul_assoc, ← Nat.pow_add]; congr 2; omega
theorem scale' (n k j : Nat) : n * 2 ^ j * 2 ^ ((-(j : Int) - min (-(k : Int)) (-(j : Int))).toNat) = n * 2 ^ (max k j) := by
  rw [Nat.mul_assoc, ← Nat.pow_add]; congr 2; omega

theorem Stands.sum {d e : Datum} {a b : Nat} (hd : Stands d a) (he : Stands e b) : ∃ f, d.sum e = some f ∧ Stands f (a + b) := by
  obtain ⟨k, rfl⟩ := hd; obtain ⟨j, rfl⟩ := he
  refine ⟨_, rfl, max k j, ?_⟩
  simp only [signed_false, scale, scale']
  rw [← Int.natCast_add, ← Nat.add_mul]
  generalize (a + b) * 2 ^ max k j = t
  congr 1
  · split
    · rfl
    · simp
  · omega

theorem Stands.diff {d e : Datum} {a b : Nat} (hd : Stands d a) (he : Stands e b) (h : b ≤ a) : ∃ f, d.sum e.opposite = some f ∧ Stands f (a - b) := by
  obtain ⟨k, rfl⟩ := hd; obtain ⟨j, rfl⟩ := he
  refine ⟨_, rfl, max k j, ?_⟩
  simp only [Bool.not_false, signed_false, signed_true, scale, scale']
  have hle : b * 2 ^ max k j ≤ a * 2 ^ max k j := Nat.mul_le_mul_right _ h
  have e : ((a * 2 ^ max k j : Nat) : Int) + -((b * 2 ^ max k j : Nat) : Int) = (((a - b) * 2 ^ max k j : Nat) : Int) := by rw [Nat.sub_mul]; omega
  rw [e]
  generalize (a - b) * 2 ^ max k j = t
  congr 1
  · split
    · rfl
    · simp
  · omega

theorem Stands.product {d e : Datum} {a b : Nat} (hd : Stands d a) (he : Stands e b) : ∃ f, d.product e = some f ∧ Stands f (a * b) := by
  obtain ⟨k, rfl⟩ := hd; obtain ⟨j, rfl⟩ := he
  refine ⟨_, rfl, k + j, ?_⟩
  congr 1
  · rw [Nat.pow_add]; ac_rfl
  · omega

theorem compare_scale (a b k : Nat) : compare ((a * 2 ^ k : Nat) : Int) ((b * 2 ^ k : Nat) : Int) = compare a b := by
  have hp : 0 < 2 ^ k := Nat.two_pow_pos k
  rcases Nat.lt_trichotomy a b with h | h | h
  · have := Nat.mul_lt_mul_of_pos_right h hp
    rw [Nat.compare_eq_lt.2 h, Int.compare_eq_lt.2 (by omega)]
  · subst h; simp
  · have := Nat.mul_lt_mul_of_pos_right h hp
    rw [Nat.compare_eq_gt.2 h, Int.compare_eq_gt.2 (by omega)]

theorem Stands.order {d e : Datum} {a b : Nat} (hd : Stands d a) (he : Stands e b) : d.order e = some (compare a b) := by
  obtain ⟨k, rfl⟩ := hd; obtain ⟨j, rfl⟩ := he
  simp only [Datum.order, signed_false, scale, scale', compare_scale]

theorem Stands.toInt {d : Datum} {a : Nat} (hd : Stands d a) (way : Toward) : d.toInt way = some (a : Int) := by
  obtain ⟨k, rfl⟩ := hd
  have e : (- -(k : Int)).toNat = k := by omega
  have e2 : (-(k : Int)).toNat = 0 := by omega
  simp only [Datum.toInt, Datum.integral, e, e2, Nat.shiftLeft_zero, cut_whole _ _ _ _ _ (Nat.le_refl k), Nat.sub_self, Nat.pow_zero, Nat.mul_one, signed_false]

-- words
theorem add (a b : Nat) (h : a + b < 2 ^ 53) : double.add (fl a) (fl b) = some (fl (a + b)) := by
  obtain ⟨f, hf, hs⟩ := (read_fl a (by omega)).sum (read_fl b (by omega))
  simp [Format.add, hf, hs.write h]
theorem sub (a b : Nat) (h : a < 2 ^ 53) (hb : b ≤ a) : double.sub (fl a) (fl b) = some (fl (a - b)) := by
  obtain ⟨f, hf, hs⟩ := (read_fl a (by omega)).diff (read_fl b (by omega)) hb
  simp [Format.sub, hf, hs.write (by omega)]
theorem mul (a b : Nat) (ha : a < 2 ^ 53) (hb : b < 2 ^ 53) (h : a * b < 2 ^ 53) : double.mul (fl a) (fl b) = some (fl (a * b)) := by
  obtain ⟨f, hf, hs⟩ := (read_fl a ha).product (read_fl b hb)
  simp [Format.mul, hf, hs.write h]
theorem order (a b : Nat) (ha : a < 2 ^ 53) (hb : b < 2 ^ 53) : double.order (fl a) (fl b) = some (compare a b) := (read_fl a ha).order (read_fl b hb)
theorem toInt (a : Nat) (ha : a < 2 ^ 53) (way : Toward) : (double.read (fl a)).toInt way = some (a : Int) := (read_fl a ha).toInt way
theorem nearest_int (n : Nat) : (Go.FloatKind.f64).nearest (n : Int) = fl n := by
  have : ¬ ((n : Int) < 0) := by omega
  simp [Go.FloatKind.nearest, Go.FloatKind.encode, Go.FloatKind.format, Format.write, fl, this]

theorem fl0 : fl 0 = 0 := by rw [fl_word 0 (by decide)]; rfl
theorem fl1 : fl 1 = 4607182418800017408 := by rw [fl_word 1 (by decide)]; decide
theorem fl2 : fl 2 = 4611686018427387904 := by rw [fl_word 2 (by decide)]; decide
theorem fl16 : fl 16 = 4625196817309499392 := by rw [fl_word 16 (by decide)]; decide
theorem fl_lt (n : Nat) : fl n < 2 ^ 64 := double.nearest_lt false n 0

-- halves
theorem half (p : Nat) (h : p < 2 ^ 53) : ∃ x, double.div (fl p) (fl 2) = some x ∧ ∃ s m e, double.read x = .number s m e ∧ double.write ((double.read x).integral .down) = fl (p / 2) := by
  obtain ⟨k, hk⟩ := read_fl p h
  obtain ⟨j, hj⟩ := read_fl 2 (by decide)
  have hl := log2_le p h
  have e2 : (2 * 2 ^ j).log2 = j + 1 := by rw [log2_mul_pow 2 j (by decide)]; have : Nat.log2 2 = 1 := by decide
                                           omega
  have hq : ∃ q : Nat, (double.read (fl p)).quotient (double.fractionBits + 2) (double.read (fl 2)) = some (.number false (p * 2 ^ q) (-(q : Int) - 1)) := by
    rw [hk, hj]
    have hp : 0 < 2 ^ j := Nat.two_pow_pos j
    simp only [Datum.quotient]
    rw [if_neg (by omega), e2, show double.fractionBits + 2 = 54 from rfl]
    by_cases hz : p = 0
    · subst hz
      refine ⟨k + (54 + (j + 1) - 0) - j, ?_⟩
      simp [shl]
      omega
    · rw [log2_mul_pow p k hz]
      generalize hmore : 54 + (j + 1) - (p.log2 + k) = more
      refine ⟨k + more - j, ?_⟩
      have hge : j + 1 ≤ k + more := by omega
      have ed : (p * 2 ^ k) <<< more = p * 2 ^ (k + more - (j + 1)) * (2 * 2 ^ j) := by
        rw [shl, Nat.mul_assoc, ← Nat.pow_add, Nat.mul_assoc, show 2 * 2 ^ j = 2 ^ (j + 1) by rw [Nat.pow_succ]; omega, ← Nat.pow_add]
        congr 2; omega
      have hpos : 0 < 2 * 2 ^ j := by omega
      simp only [ed, Nat.mul_div_cancel _ hpos, Nat.mul_mod_left]
      simp only [bne_self_eq_false, Bool.toNat_false, Nat.add_zero, Bool.xor_self]
      congr 2
      · rw [show k + more - j = (k + more - (j + 1)) + 1 by omega, Nat.pow_succ]; ac_rfl
      · omega
  obtain ⟨q, hq⟩ := hq
  refine ⟨double.nearest false (p * 2 ^ q) (-(q : Int) - 1), by simp only [Format.div, hq, Option.map_some, Format.write], ?_⟩
  by_cases hz : p = 0
  · subst hz
    have e : double.nearest false (0 * 2 ^ q) (-(q : Int) - 1) = 0 := by simp [Format.nearest, Format.word]
    rw [e]
    refine ⟨false, 0, -1074, read_zero, ?_⟩
    rw [read_zero]
    have hc : Toward.down.cut false (0 <<< (-1074 : Int).toNat) (- (-1074 : Int)).toNat = 0 := by
      simp [Toward.cut]
    simp only [Datum.integral, hc, Format.write]
    rfl
  · have e := nearest_gen p q 1 hz h (by omega)
    rw [show -(q : Int) - ((1 : Nat) : Int) = -(q : Int) - 1 from rfl] at e
    rw [e]
    unfold rung
    have hr := read_gen (p.log2 + 1022 - 1) _ (sig_lo p hz h) (sig_hi p h) (by omega)
    refine ⟨_, _, _, hr, ?_⟩
    rw [hr]
    have e3 : ((p.log2 + 1022 - 1 : Nat) : Int) - 1074 = (p.log2 : Int) - 53 := by omega
    simp only [Datum.integral, e3]
    rw [show ((p.log2 : Int) - 53).toNat = 0 by omega, show (-((p.log2 : Int) - 53)).toNat = 53 - p.log2 by omega, Nat.shiftLeft_zero]
    have hc : Toward.down.cut false (p * 2 ^ (52 - p.log2)) (53 - p.log2) = p / 2 := by
      unfold Toward.cut
      have hlog : (p * 2 ^ (52 - p.log2)).log2 = 52 := by rw [log2_mul_pow p _ hz]; omega
      rw [hlog, show min (53 - p.log2) (52 + 2) = 53 - p.log2 by omega]
      simp only [shl, Nat.one_mul, Bool.false_and, Bool.toNat_false, Nat.add_zero]
      rw [show 53 - p.log2 = (52 - p.log2) + 1 by omega, Nat.pow_succ]
      exact Nat.mul_comm (2 ^ (52 - p.log2)) 2 ▸ Nat.mul_div_mul_right _ _ (Nat.two_pow_pos _)
    rw [hc]; rfl

/-- the word x is the whole number n (nought has two) -/
def Nz (x n : Nat) : Prop := x = fl n ∨ (x = 9223372036854775808 ∧ n = 0)

theorem read_nz {x n : Nat} (hx : Nz x n) (h : n < 2 ^ 53) : ∃ (s : Bool) (k : Nat), double.read x = .number s (n * 2 ^ k) (-(k : Int)) ∧ (s = true → n = 0) := by
  rcases hx with rfl | ⟨rfl, rfl⟩
  · obtain ⟨k, hk⟩ := read_fl n h
    exact ⟨false, k, hk, by simp⟩
  · obtain ⟨k, hk⟩ : ∃ k : Nat, k = 1074 := ⟨_, rfl⟩
    exact ⟨true, k, by rw [read_neg, Nat.zero_mul, hk]; rfl, by simp⟩
theorem order_nz {x y a b : Nat} (hx : Nz x a) (hy : Nz y b) (ha : a < 2 ^ 53) (hb : b < 2 ^ 53) : double.order x y = some (compare a b) := by
  obtain ⟨s, k, hk, hs⟩ := read_nz hx ha
  obtain ⟨t, j, hj, ht⟩ := read_nz hy hb
  have key : ∀ (s : Bool) (m u : Nat), (s = true → m = 0) → signed s m u = ((m * 2 ^ u : Nat) : Int) := by
    intro s m u h
    cases s
    · exact signed_false m u
    · rw [h rfl]; simp [signed]
  simp only [Format.order, hk, hj, Datum.order]
  rw [key s _ _ (fun e => by rw [hs e]; simp), key t _ _ (fun e => by rw [ht e]; simp)]
  simp only [scale, scale', compare_scale]
theorem nz_fl (n : Nat) : Nz (fl n) n := .inl rfl
theorem toInt_nz {x n : Nat} (hx : Nz x n) (h : n < 2 ^ 53) : (double.read x).toInt .zero = some (n : Int) := by
  rcases hx with rfl | ⟨rfl, rfl⟩
  · exact toInt n h .zero
  · rw [read_neg]; decide

theorem eq_value {m n d J : Nat} (hJ : d ≤ J) (h : m * 2 ^ (J - d) = n * 2 ^ J) : m = n * 2 ^ d := by
  have e : n * 2 ^ J = n * 2 ^ d * 2 ^ (J - d) := by rw [Nat.mul_assoc, ← Nat.pow_add]; congr 2; omega
  rw [e] at h
  exact Nat.eq_of_mul_eq_mul_right (Nat.two_pow_pos _) h
theorem le_value {m n d J : Nat} (hJ : d ≤ J) (h : m * 2 ^ (J - d) ≤ n * 2 ^ J) : m ≤ n * 2 ^ d := by
  have e : n * 2 ^ J = n * 2 ^ d * 2 ^ (J - d) := by rw [Nat.mul_assoc, ← Nat.pow_add]; congr 2; omega
  rw [e] at h
  exact Nat.le_of_mul_le_mul_right h (Nat.two_pow_pos _)
theorem cut_small (way : Toward) (hw : way = .zero ∨ way = .down) (m d : Nat) (hz : m ≠ 0) : way.cut false m d = m / 2 ^ d := by
  have e : way.cut false m d = m / 2 ^ (min d (m.log2 + 2)) := by
    unfold Toward.cut
    rcases hw with rfl | rfl <;> simp [shl]
  rw [e]
  have h2 := Nat.lt_log2_self (n := m)
  by_cases h : d ≤ m.log2 + 2
  · rw [Nat.min_eq_left h]
  · have h3 : 2 ^ (m.log2 + 1) ≤ 2 ^ (m.log2 + 2) := Nat.pow_le_pow_right (by decide) (by omega)
    have h4 : 2 ^ (m.log2 + 1) ≤ 2 ^ d := Nat.pow_le_pow_right (by decide) (by omega)
    rw [Nat.min_eq_right (by omega), Nat.div_eq_of_lt (by omega), Nat.div_eq_of_lt (by omega)]
/-- the word of a number that is above nought and has its full digits is that of the whole number that it is -/
theorem word_of (c m n d : Nat) (h1 : 2 ^ 52 ≤ m) (h2 : m < 2 ^ 53) (hcd : c + d = 1074) (h : m = n * 2 ^ d) : c * 2 ^ 52 + m = fl n := by
  have hz : n ≠ 0 := by rintro rfl; omega
  have hp : 1 ≤ 2 ^ d := Nat.two_pow_pos d
  have hn : n ≤ m := by rw [h]; exact Nat.le_mul_of_pos_right n hp
  have hlm : m.log2 = 52 := (Nat.log2_eq_iff (by omega)).2 ⟨h1, h2⟩
  have hl : n.log2 + d = 52 := by rw [← log2_mul_pow n d hz, ← h, hlm]
  rw [fl_word n (by omega)]
  unfold word rung
  rw [if_neg hz, show 52 - n.log2 = d by omega, ← h]
  omega

theorem gt_of {a b : Int} (h : compare a b = .gt) : b < a := Int.compare_eq_gt.1 h
theorem not_lt_of_ge {a b : Int} (h : compare a b = .gt ∨ compare a b = .eq) : b ≤ a := by
  rcases h with h | h
  · have := Int.compare_eq_gt.1 h; omega
  · have := Int.compare_eq_eq.1 h; omega
theorem le_of_cmp {a b : Int} (h : compare a b = .lt ∨ compare a b = .eq) : a ≤ b := by
  rcases h with h | h
  · have := Int.compare_eq_lt.1 h; omega
  · have := Int.compare_eq_eq.1 h; omega

theorem or_some {a : Ordering} {p q : Ordering} (h : some a = some p ∨ some a = some q) : a = p ∨ a = q := by
  rcases h with h | h
  · exact .inl (Option.some.inj h)
  · exact .inr (Option.some.inj h)

/-- a word that is from nought to most: what Floor and int make of it, and when it is whole -/
theorem whole (x most : Nat) (hx : x < 2 ^ 64) (hm : most < 2 ^ 52) (hA : double.order x 0 = some .gt ∨ double.order x 0 = some .eq) (hB : double.order x (fl most) = some .lt ∨ double.order x (fl most) = some .eq) :
    ∃ s m e n y, double.read x = .number s m e ∧ n ≤ most ∧ (double.read x).toInt .zero = some ((n : Nat) : Int) ∧ double.write ((double.read x).integral .down) = y ∧ (double.order x y = some .eq → Nz x n) ∧ (double.order (fl n) x = some .eq → Nz x n) := by
  have hr0 : double.read x = (if x % 2 ^ 63 < 2 ^ 52 then Datum.number (x / 2 ^ 63 % 2 == 1) (x % 2 ^ 63) (-1074) else if x % 2 ^ 63 < 2047 * 2 ^ 52 then .number (x / 2 ^ 63 % 2 == 1) (2 ^ 52 + x % 2 ^ 63 % 2 ^ 52) (-1074 + ((x % 2 ^ 63 / 2 ^ 52 - 1 : Nat) : Int)) else if x % 2 ^ 63 = 2047 * 2 ^ 52 then .infinity (x / 2 ^ 63 % 2 == 1) else .nan (x / 2 ^ 63 % 2 == 1) (x % 2 ^ 63 - 2047 * 2 ^ 52)) := by
    unfold Format.read; rw [sw, bin, inf, lp]
  obtain ⟨k, hk⟩ := read_fl most (by omega)
  unfold Format.order at hA hB
  rw [read_zero] at hA
  rw [hk] at hB
  generalize hneg : (x / 2 ^ 63 % 2 == 1) = neg at hr0
  generalize hrg : x % 2 ^ 63 = r at hr0
  have hxr : x = (if neg = true then 2 ^ 63 else 0) + r := by
    rw [← hneg, ← hrg]
    by_cases h : x / 2 ^ 63 % 2 = 1
    · rw [h]; simp; omega
    · have : (x / 2 ^ 63 % 2 == 1) = false := by simpa using h
      rw [this]; simp; omega
  -- the sign
  have hsign : ∀ m e, double.read x = .number neg m e → neg = true → m = 0 := by
    intro m e hr hn
    rw [hr, hn] at hA
    simp only [Datum.order] at hA
    have := not_lt_of_ge (or_some hA)
    rw [signed_true, signed_false] at this
    have hp : 0 < 2 ^ (e - min e (-1074)).toNat := Nat.two_pow_pos _
    rcases Nat.eq_zero_or_pos m with h | h
    · exact h
    · have := Nat.mul_pos h hp
      simp only [Nat.zero_mul] at *
      omega
  by_cases h1 : r < 2 ^ 52
  · rw [if_pos h1] at hr0
    rcases Bool.eq_false_or_eq_true neg with hn | hn
    · have hr : r = 0 := hsign _ _ hr0 hn
      subst hr
      refine ⟨neg, 0, -1074, 0, _, hr0, Nat.zero_le _, ?_, rfl, fun _ => .inr ⟨by rw [hxr, hn]; rfl, rfl⟩, fun _ => .inr ⟨by rw [hxr, hn]; rfl, rfl⟩⟩
      rw [hr0, hn]; decide
    · subst hn
      have hx0 : x = r := by rw [hxr]; simp
      have hc : ∀ way : Toward, way = .zero ∨ way = .down → way.cut false (r <<< (-1074 : Int).toNat) (-(-1074 : Int)).toNat = 0 := by
        intro way hw
        rw [show (-1074 : Int).toNat = 0 from rfl, Nat.shiftLeft_zero]
        by_cases hz : r = 0
        · subst hz; rcases hw with rfl | rfl <;> simp [Toward.cut]
        · rw [cut_small way hw r _ hz]
          refine Nat.div_eq_of_lt (Nat.lt_of_lt_of_le h1 (Nat.pow_le_pow_right (by decide) ?_))
          decide
      have hzero : ∀ {a b : Nat}, r * 2 ^ a = 0 * 2 ^ b → r = 0 := by
        intro a b h
        have := Nat.two_pow_pos a
        rw [Nat.zero_mul] at h
        rcases Nat.mul_eq_zero.1 h with h | h <;> omega
      refine ⟨false, r, -1074, 0, 0, hr0, Nat.zero_le _, ?_, ?_, ?_, ?_⟩
      · rw [hr0]; simp only [Datum.toInt, Datum.integral, hc .zero (.inl rfl)]; rfl
      · rw [hr0]; simp only [Datum.integral, hc .down (.inr rfl), Format.write]; rfl
      · intro h
        rw [Format.order, hr0, read_zero] at h
        simp only [Datum.order, signed_false] at h
        have h := Int.compare_eq_eq.1 (Option.some.inj h)
        have h := hzero (Int.ofNat.inj h)
        exact .inl (by rw [hx0, h, fl0])
      · intro h
        rw [fl0, Format.order, hr0, read_zero] at h
        simp only [Datum.order, signed_false] at h
        have h := Int.compare_eq_eq.1 (Option.some.inj h)
        have h := hzero (Int.ofNat.inj h).symm
        exact .inl (by rw [hx0, h, fl0])
  · rw [if_neg h1] at hr0
    by_cases h2 : r < 2047 * 2 ^ 52
    · rw [if_pos h2] at hr0
      generalize hm' : 2 ^ 52 + r % 2 ^ 52 = m at hr0
      generalize hc' : r / 2 ^ 52 - 1 = c at hr0
      have hneg0 : neg = false := by
        rcases Bool.eq_false_or_eq_true neg with hn | hn
        · have := hsign _ _ hr0 hn; omega
        · exact hn
      subst hneg0
      have hx0 : x = c * 2 ^ 52 + m := by rw [hxr]; simp; omega
      have m1 : 2 ^ 52 ≤ m := by omega
      have m2 : m < 2 ^ 53 := by omega
      rw [hr0] at hB
      simp only [Datum.order, signed_false] at hB
      have hle := le_of_cmp (or_some hB)
      clear hA hB hsign
      have hc : c < 1074 := by
        rcases Nat.lt_or_ge c 1074 with h | h
        · exact h
        · exfalso
          rw [show (-1074 + (c : Int) - min (-1074 + (c : Int)) (-(k : Int))).toNat = (c - 1074) + k by omega, show (-(k : Int) - min (-1074 + (c : Int)) (-(k : Int))).toNat = 0 by omega] at hle
          have hle : m * 2 ^ (c - 1074 + k) ≤ most * 2 ^ k * 2 ^ 0 := Int.ofNat_le.1 hle
          rw [Nat.pow_add, Nat.pow_zero, Nat.mul_one, ← Nat.mul_assoc] at hle
          have hle := Nat.le_of_mul_le_mul_right hle (Nat.two_pow_pos k)
          have := Nat.le_mul_of_pos_right m (Nat.two_pow_pos (c - 1074))
          omega
      obtain ⟨d, hd⟩ : ∃ d, c + d = 1074 := ⟨1074 - c, by omega⟩
      have he : -1074 + (c : Int) = -(d : Int) := by omega
      rw [he] at hr0 hle
      have hJ : ∀ j : Nat, (-(d : Int) - min (-(d : Int)) (-(j : Int))).toNat = max d j - d := by intro j; omega
      have hle : m * 2 ^ (max d k - d) ≤ most * 2 ^ max d k := by
        rw [hJ, scale'] at hle
        exact Int.ofNat_le.1 hle
      have hle := le_value (by omega) hle
      have hcut : ∀ way : Toward, way = .zero ∨ way = .down → way.cut false (m <<< (-(d : Int)).toNat) (- -(d : Int)).toNat = m / 2 ^ d := by
        intro way hw
        rw [show (-(d : Int)).toNat = 0 by omega, show (- -(d : Int)).toNat = d by omega, Nat.shiftLeft_zero]
        exact cut_small way hw m d (by omega)
      have hn : m / 2 ^ d ≤ most := by
        have := Nat.div_le_div_right (c := 2 ^ d) hle
        rwa [Nat.mul_div_cancel _ (Nat.two_pow_pos d)] at this
      generalize hq : m / 2 ^ d = n at hn hcut
      obtain ⟨j, hj⟩ := read_fl n (by omega)
      have key : compare ((m * 2 ^ (max d j - d) : Nat) : Int) ((n * 2 ^ max d j : Nat) : Int) = .eq → Nz x n := by
        intro h
        have h := Int.ofNat.inj (Int.compare_eq_eq.1 h)
        exact .inl (by rw [hx0]; exact word_of c m n d m1 m2 hd (eq_value (by omega) h))
      refine ⟨false, m, -(d : Int), n, fl n, hr0, hn, ?_, ?_, ?_, ?_⟩
      · rw [hr0]; simp only [Datum.toInt, Datum.integral, hcut .zero (.inl rfl), signed_false]; simp
      · rw [hr0]; simp only [Datum.integral, hcut .down (.inr rfl), Format.write]; rfl
      · intro h
        rw [Format.order, hr0, hj] at h
        simp only [Datum.order, signed_false, hJ, scale'] at h
        exact key (Option.some.inj h)
      · intro h
        rw [Format.order, hr0, hj] at h
        have hJ' : (-(d : Int) - min (-(j : Int)) (-(d : Int))).toNat = max j d - d := by omega
        simp only [Datum.order, signed_false, hJ', scale] at h
        have h := Int.compare_eq_eq.1 (Option.some.inj h)
        refine key (Int.compare_eq_eq.2 ?_)
        rw [Nat.max_comm d j]; exact h.symm
    · exfalso
      rw [if_neg h2] at hr0
      by_cases h3 : r = 2047 * 2 ^ 52
      · rw [if_pos h3] at hr0
        rw [hr0] at hA hB
        cases neg <;> simp [Datum.order] at hA hB
      · rw [if_neg h3] at hr0
        rw [hr0] at hA
        simp [Datum.order] at hA

/-- the word of a whole number has no sign -/
theorem fl_small (n : Nat) (h : n < 2 ^ 52) : fl n < 2 ^ 63 := by
  rw [fl_word n (by omega)]
  unfold word rung
  split
  · decide
  · have := log2_le n (by omega)
    have := sig_hi n (by omega)
    omega

theorem Nz.lt {x n : Nat} (h : Nz x n) : x < 2 ^ 64 := by
  rcases h with rfl | ⟨rfl, -⟩
  · exact fl_lt n
  · decide
theorem Nz.ge {x n : Nat} (hx : Nz x n) (h : n < 2 ^ 52) : double.order x 0 = some .gt ∨ double.order x 0 = some .eq := by
  have o := order_nz hx (nz_fl 0) (by omega) (by decide)
  rw [fl0] at o
  rw [o]
  rcases Nat.eq_zero_or_pos n with e | e
  · right; rw [e]; rfl
  · left; rw [Nat.compare_eq_gt.2 e]
theorem Nz.le {x n m : Nat} (hx : Nz x n) (hn : n ≤ m) (h : m < 2 ^ 52) : double.order x (fl m) = some .lt ∨ double.order x (fl m) = some .eq := by
  rw [order_nz hx (nz_fl m) (by omega) (by omega)]
  rcases Nat.lt_or_eq_of_le hn with e | e
  · left; rw [Nat.compare_eq_lt.2 e]
  · right; rw [e, Nat.compare_eq_eq.2 rfl]
theorem Nz.eq {x y n : Nat} (hx : Nz x n) (hy : Nz y n) (h : n < 2 ^ 52) : double.order x y = some .eq := by
  rw [order_nz hx hy (by omega) (by omega), Nat.compare_eq_eq.2 rfl]
theorem Nz.floor {x n : Nat} (hx : Nz x n) (h : n < 2 ^ 52) : ∃ s m e y, double.read x = .number s m e ∧ double.write ((double.read x).integral .down) = y ∧ Nz y n := by
  obtain ⟨s, k, hk, hs⟩ := read_nz hx (by omega)
  refine ⟨s, _, _, _, hk, rfl, ?_⟩
  rw [hk]
  simp only [Datum.integral]
  rw [show (-(k : Int)).toNat = 0 by omega, show (- -(k : Int)).toNat = k by omega, Nat.shiftLeft_zero, cut_whole _ _ _ _ _ (Nat.le_refl k), Nat.sub_self, Nat.pow_zero, Nat.mul_one]
  rcases Bool.eq_false_or_eq_true s with e | e
  · right; rw [e, hs e]; exact ⟨by decide, rfl⟩
  · left; rw [e]; rfl
/-- what is not such: where it falls -/
theorem not_whole {x m : Nat} (hx : x < 2 ^ 64) (hm : m < 2 ^ 52) (hno : ∀ n, n ≤ m → ¬ Nz x n) (hA : double.order x 0 = some .gt ∨ double.order x 0 = some .eq) (hB : double.order x (fl m) = some .lt ∨ double.order x (fl m) = some .eq) :
    ∃ s g e n y, double.read x = .number s g e ∧ n ≤ m ∧ (double.read x).toInt .zero = some ((n : Nat) : Int) ∧ double.write ((double.read x).integral .down) = y ∧ double.order x y ≠ some .eq ∧ double.order (fl n) x ≠ some .eq := by
  obtain ⟨s, g, e, n, y, h1, h2, h3, h4, h5, h6⟩ := whole x m hx hm hA hB
  exact ⟨s, g, e, n, y, h1, h2, h3, h4, fun h => hno n h2 (h5 h), fun h => hno n h2 (h6 h)⟩

end Go.Proofs.YtkplkfokpniflaaDoor.Fl

namespace Go.Proofs.YtkplkfokpniflaaDoor.Sp
set_option linter.all false
set_option maxRecDepth 100000
open Go.RowKit Fl

theorem bits_run (b : Nat) (w : World) : (callFunc 57 #[.float .f64 b]).run Tryd.prog w = .ok (.value (.int .u64 b)) w := by
  rw [run_callFunc_extern Tryd.func57 (by kernel_rfl) (by kernel_rfl) (by kernel_rfl) (e := Extern.MathFloatBits.float64bits) (by kernel_rfl)]
  rfl
theorem word_run (b : Nat) (w : World) : (callFunc 56 #[.int .u64 (b : Int)]).run Tryd.prog w = .ok (.value (.float .f64 b)) w := by
  rw [run_callFunc_extern Tryd.func56 (by kernel_rfl) (by kernel_rfl) (by kernel_rfl) (e := Extern.MathFloatBits.float64frombits) (by kernel_rfl)]
  rfl
attribute [local irreducible] FloatKind.decode in
theorem floor_entry (x y : Nat) {s : Bool} {m : Nat} {e : Int} (h : FloatKind.f64.decode x = .number s m e) (h2 : FloatKind.f64.encode ((Ieee.Datum.number s m e).integral .down) = y) :
    Extern.MathFloor.toIntegral "math.archFloor" .down #[.float .f64 x] = pure (.float .f64 y) := by
  conv => lhs; whnf
  rw [h, ← h2]
theorem floor_run (x y : Nat) {s : Bool} {m : Nat} {e : Int} (hr : Ieee.double.read x = .number s m e) (hy : Ieee.double.write ((Ieee.double.read x).integral .down) = y) (w : World) :
    (callFunc 67 #[.float .f64 x]).run Tryd.prog w = .ok (.value (.float .f64 y)) w := by
  rw [run_callFunc_extern Tryd.func67 (by kernel_rfl) (by kernel_rfl) (by kernel_rfl) (e := Extern.MathFloor.toIntegral "math.archFloor" .down) (by kernel_rfl)]
  rw [hr] at hy
  rw [floor_entry x y hr hy]
  rfl

theorem floor_is (x y : Nat) {s : Bool} {m : Nat} {e : Int} (w : World) (hr : Ieee.double.read x = .number s m e) (hy : Ieee.double.write ((Ieee.double.read x).integral .down) = y) :
    Calls Tryd.prog 62 #[.float .f64 x] w fun e w' => e = .returned (.float .f64 y) ∧ w = w' := by
  have hx := floor_run x y hr hy
  clear hr hy
  go_enter Tryd.func62, Tryd.ntmps62
  go_wp2
  go_ret
  exact ⟨rfl, rfl⟩

theorem abs_is (x n : Nat) (w : World) (hx : Nz x n) (hn : n < 2 ^ 52) :
    Calls Tryd.prog 46 #[.float .f64 x] w fun e w' => e = .returned (.float .f64 (fl n)) ∧ w = w' := by
  have e1 : bits .andNot .u64 (x : Int) (9223372036854775808 : Int) = (fl n : Int) := by
    rcases hx with rfl | ⟨rfl, rfl⟩
    · have hl := fl_small n hn
      have := u64_andNot_nat (fl n) 9223372036854775808 (by omega) (by decide)
      rw [show ((9223372036854775808 : Nat) : Int) = 9223372036854775808 from rfl] at this
      rw [this, show 18446744073709551615 - 9223372036854775808 = 2 ^ 63 - 1 by decide, Nat.and_two_pow_sub_one_eq_mod, Nat.mod_eq_of_lt hl]
    · rw [fl0]; decide
  have h1 := bits_run x
  obtain ⟨y, hy⟩ : ∃ y, fl n = y := ⟨_, rfl⟩
  rw [hy] at e1 ⊢
  have h2 := word_run y
  clear hx hn hy
  go_enter Tryd.func46, Tryd.ntmps46
  go_wp2
  go_ret
  exact ⟨rfl, rfl⟩

theorem isDeep_is (d : Int) (w : World) :
    Calls Tryd.prog 47 #[.int .i64 d] w fun e w' => e = .returned (.bool (decide (0 ≤ d ∧ d ≤ 16))) ∧ w = w' := by
  by_cases h1 : 0 ≤ d
  · by_cases h2 : d ≤ 16
    · rw [decide_eq_true ⟨h1, h2⟩]
      go_enter Tryd.func47, Tryd.ntmps47
      go_wp2
      go_ret
      exact ⟨rfl, rfl⟩
    · rw [decide_eq_false (fun h => h2 h.2)]
      go_enter Tryd.func47, Tryd.ntmps47
      go_wp2
      go_ret
      exact ⟨rfl, rfl⟩
  · rw [decide_eq_false (fun h => h1 h.1)]
    go_enter Tryd.func47, Tryd.ntmps47
    go_wp2
    go_ret
    exact ⟨rfl, rfl⟩

theorem leaves_is (d n : Nat) (w : World) (h : d ≤ 16) (hn : 2 ^ d = n) :
    Calls Tryd.prog 48 #[.int .i64 (d : Int)] w fun e w' => e = .returned (.int .i64 (n : Int)) ∧ w = w' := by
  have x0 : (2 : Int) ^ d = (n : Int) := by rw [← hn]; simp
  have x1 : n ≤ 65536 := by rw [← hn]; exact Nat.pow_le_pow_right (by decide) (show d ≤ 16 from h)
  clear hn
  go_enter Tryd.func48, Tryd.ntmps48
  go_wp2
  go_ret
  exact ⟨rfl, rfl⟩

theorem nearest_is (m : Nat) : floatOfInt .f64 (m : Int) = fl m := nearest_int m

set_option maxHeartbeats 1000000 in
/-- a word is a whole number from 0 to most -/
theorem isWhole_yes (x n m : Nat) (w : World) (hx : Nz x n) (hn : n ≤ m) (hm : m ≤ 65536) :
    Calls Tryd.prog 55 #[.float .f64 x, .int .i64 (m : Int)] w fun e w' => e = .returned (.bool true) ∧ w = w' := by
  have hm' : m < 2 ^ 52 := by omega
  have hA := hx.ge (by omega)
  have hB := hx.le hn hm'
  obtain ⟨s, g, e, y, hr, hy, hq⟩ := hx.floor (by omega)
  have hC := hx.eq hq (by omega)
  have h1 := floor_is x y w hr hy
  have n1 := nearest_is m
  obtain ⟨M, hM⟩ : ∃ M, fl m = M := ⟨_, rfl⟩
  rw [hM] at hB n1
  change FloatKind.f64.format.order x 0 = _ ∨ FloatKind.f64.format.order x 0 = _ at hA
  change FloatKind.f64.format.order x M = _ ∨ FloatKind.f64.format.order x M = _ at hB
  change FloatKind.f64.format.order x y = _ at hC
  clear hr hy hq hx hM hn
  rcases hA with hA | hA <;> rcases hB with hB | hB <;>
  (go_enter Tryd.func55, Tryd.ntmps55
   go_wp2_with (first | (go_at_call 62; refine h1.mono ?_; rintro e' w' ⟨rfl, rfl⟩) | go_in)
   go_ret
   exact ⟨rfl, rfl⟩)

set_option maxHeartbeats 1000000 in
theorem isWhole_no (x m : Nat) (w : World) (hx : x < 2 ^ 64) (hno : ∀ n, n ≤ m → ¬ Nz x n) (hm : m ≤ 65536) :
    Calls Tryd.prog 55 #[.float .f64 x, .int .i64 (m : Int)] w fun e w' => e = .returned (.bool false) ∧ w = w' := by
  have hm' : m < 2 ^ 52 := by omega
  have key := not_whole hx hm' hno
  have n1 := nearest_is m
  obtain ⟨M, hM⟩ : ∃ M, fl m = M := ⟨_, rfl⟩
  rw [hM] at key n1
  change (FloatKind.f64.format.order x 0 = _ ∨ FloatKind.f64.format.order x 0 = _) → (FloatKind.f64.format.order x M = _ ∨ FloatKind.f64.format.order x M = _) → ∃ s g e n y, Ieee.double.read x = .number s g e ∧ n ≤ m ∧ (Ieee.double.read x).toInt .zero = some ((n : Nat) : Int) ∧ Ieee.double.write ((Ieee.double.read x).integral .down) = y ∧ FloatKind.f64.format.order x y ≠ some .eq ∧ FloatKind.f64.format.order (fl n) x ≠ some .eq at key
  clear hx hno hM
  rcases hA : FloatKind.f64.format.order x 0 with _ | o
  · clear key
    go_enter Tryd.func55, Tryd.ntmps55
    go_wp2
    go_ret
    exact ⟨rfl, rfl⟩
  · rcases o with _ | _ | _
    · clear key
      go_enter Tryd.func55, Tryd.ntmps55
      go_wp2
      go_ret
      exact ⟨rfl, rfl⟩
    all_goals
      have key := key (by simp [hA])
      rcases hB : FloatKind.f64.format.order x M with _ | o
      · clear key
        go_enter Tryd.func55, Tryd.ntmps55
        go_wp2
        go_ret
        exact ⟨rfl, rfl⟩
      · rcases o with _ | _ | _
        case gt =>
          clear key
          go_enter Tryd.func55, Tryd.ntmps55
          go_wp2
          go_ret
          exact ⟨rfl, rfl⟩
        all_goals
          obtain ⟨s, g, e, n, y, hr, -, -, hy, hne, -⟩ := key (by simp [hB])
          have h1 := floor_is x y w hr hy
          have hC : (FloatKind.f64.format.order x y == some .eq) = false := by simpa using hne
          clear hr hy hne key
          go_enter Tryd.func55, Tryd.ntmps55
          go_wp2_with (first | (go_at_call 62; refine h1.mono ?_; rintro e' w' ⟨rfl, rfl⟩) | go_in)
          go_ret
          exact ⟨rfl, rfl⟩
/-- whether the word x is a whole number from 0 to m -/
structure WH (x m : Nat) (b : Bool) : Prop where
  lt : x < 2 ^ 64
  hm : m ≤ 65536
  yes : b = true → ∃ n, n ≤ m ∧ Nz x n
  no : b = false → ∀ n, n ≤ m → ¬ Nz x n
theorem isWhole_is {x m : Nat} {b : Bool} (h : WH x m b) (w : World) :
    Calls Tryd.prog 55 #[.float .f64 x, .int .i64 (m : Int)] w fun e w' => e = .returned (.bool b) ∧ w = w' := by
  cases b with
  | true => obtain ⟨n, h1, h2⟩ := h.yes rfl; exact isWhole_yes x n m w h2 h1 h.hm
  | false => exact isWhole_no x m w h.lt (h.no rfl) h.hm
/-- the word y is that of x without its sign -/
structure Ab (x y : Nat) : Prop where
  is : ∃ n, n < 2 ^ 52 ∧ Nz x n ∧ fl n = y
theorem abs_at {x y : Nat} (h : Ab x y) (w : World) :
    Calls Tryd.prog 46 #[.float .f64 x] w fun e w' => e = .returned (.float .f64 y) ∧ w = w' := by
  obtain ⟨n, h1, h2, rfl⟩ := h.is
  exact abs_is x n w h2 h1
end Go.Proofs.YtkplkfokpniflaaDoor.Sp

namespace Go.Proofs.YtkplkfokpniflaaDoor.Sp
set_option linter.all false
set_option maxRecDepth 100000
open Go.RowKit Fl

/-- a complex number is the spot of a level and a place, in a tree so deep -/
structure Spot (re im deep l p : Nat) : Prop where
  re : Nz re l
  im : Nz im p
  lev : l ≤ deep
  pl : p < 2 ^ (deep - l)
theorem pow_le (d : Nat) (h : d ≤ 16) : 2 ^ d ≤ 65536 := Nat.pow_le_pow_right (by decide) (show d ≤ 16 from h)
theorem pow_pos' (d : Nat) : 1 ≤ 2 ^ d := Nat.two_pow_pos d
theorem Spot.small {re im deep l p : Nat} (h : Spot re im deep l p) (hd : deep ≤ 16) : p < 65536 := by
  have h1 := pow_le (deep - l) (by omega)
  have h2 := h.pl
  omega

theorem int_run {x n : Nat} (hx : Nz x n) (hn : n < 2 ^ 52) (w : World) : (convert 49 3 (.float .f64 x)).run Tryd.prog w = .ok (.int .i64 (n : Int)) w := by
  refine run_convert_float_int w _ _ .f64 .i64 x n (by rw [Tryd.underlying49]; rfl) Tryd.underlying3 ?_
  have h : (FloatKind.f64.decode x).toInt .zero = some (n : Int) := toInt_nz hx (by omega)
  unfold floatToIntVal
  rw [h]
  exact if_pos ⟨by show (-9223372036854775808 : Int) ≤ n; omega, by show (n : Int) ≤ 9223372036854775807; omega⟩

theorem isDeep_yes (d : Nat) (w : World) (h : d ≤ 16) : Calls Tryd.prog 47 #[.int .i64 (d : Int)] w fun e w' => e = .returned (.bool true) ∧ w = w' := by
  have := isDeep_is (d : Int) w
  rwa [decide_eq_true (by omega)] at this
theorem isDeep_no (d : Int) (w : World) (h : ¬ (0 ≤ d ∧ d ≤ 16)) : Calls Tryd.prog 47 #[.int .i64 d] w fun e w' => e = .returned (.bool false) ∧ w = w' := by
  have := isDeep_is d w
  rwa [decide_eq_false h] at this

set_option maxHeartbeats 1000000 in
theorem right_yes (re im deep l p : Nat) (w : World) (hs : Spot re im deep l p) (hd : deep ≤ 16) :
    Calls Tryd.prog 45 #[.complex .f64 re im, .int .i64 (deep : Int)] w fun e w' => e = .returned (.bool true) ∧ w = w' := by
  have c1 := isDeep_yes deep w hd
  have c2 : WH re deep true := ⟨hs.re.lt, by omega, fun _ => ⟨l, hs.lev, hs.re⟩, by simp⟩
  obtain ⟨q, hq⟩ : ∃ q, q + l = deep := ⟨deep - l, by have := hs.lev; omega⟩
  have x1 : (deep : Int) - (l : Int) = (q : Int) := by omega
  obtain ⟨n, hn⟩ : ∃ n, 2 ^ q = n := ⟨_, rfl⟩
  have c3 := leaves_is q n w (by omega) hn
  have hp := hs.pl
  rw [show deep - l = q by omega, hn] at hp
  obtain ⟨m, hm⟩ : ∃ m, m + 1 = n := ⟨n - 1, by omega⟩
  have x2 : (n : Int) - 1 = (m : Int) := by omega
  have b1 : n ≤ 65536 := by rw [← hn]; exact pow_le q (by omega)
  have c4 : WH im m true := ⟨hs.im.lt, by omega, fun _ => ⟨p, by omega, hs.im⟩, by simp⟩
  have i1 := int_run hs.re (by have := hs.lev; omega)
  have b2 : l ≤ 16 := by have := hs.lev; omega
  have C1 := Lib.hid c1; have C2 := Lib.hid c2; have C3 := Lib.hid c3; have C4 := Lib.hid c4
  clear c1 c2 c3 c4 hs hn hq hp hm
  go_enter Tryd.func45, Tryd.ntmps45
  go_wp2_with (first | (go_at_call 47; refine C1.out.mono ?_; rintro e' w' ⟨rfl, rfl⟩) | (go_at_call 48; refine C3.out.mono ?_; rintro e' w' ⟨rfl, rfl⟩) | (go_at_call 55; refine (isWhole_is (by first | exact C2.out | exact C4.out) _).mono ?_; rintro e' w' ⟨rfl, rfl⟩) | go_in)
  go_ret
  exact ⟨rfl, rfl⟩

set_option maxHeartbeats 1000000 in
theorem right_deep (re im : Nat) (deep : Int) (w : World) (hd : ¬ (0 ≤ deep ∧ deep ≤ 16)) :
    Calls Tryd.prog 45 #[.complex .f64 re im, .int .i64 deep] w fun e w' => e = .returned (.bool false) ∧ w = w' := by
  have C1 := Lib.hid (isDeep_no deep w hd)
  clear hd
  go_enter Tryd.func45, Tryd.ntmps45
  go_wp2_with (first | (go_at_call 47; refine C1.out.mono ?_; rintro e' w' ⟨rfl, rfl⟩) | go_in)
  go_ret
  exact ⟨rfl, rfl⟩

set_option maxHeartbeats 1000000 in
theorem right_no (re im deep : Nat) (w : World) (h1 : re < 2 ^ 64) (h2 : im < 2 ^ 64) (hs : ∀ l p, ¬ Spot re im deep l p) (hd : deep ≤ 16) :
    Calls Tryd.prog 45 #[.complex .f64 re im, .int .i64 (deep : Int)] w fun e w' => e = .returned (.bool false) ∧ w = w' := by
  have C1 := Lib.hid (isDeep_yes deep w hd)
  by_cases hre : ∃ l, l ≤ deep ∧ Nz re l
  · obtain ⟨l, hl, hr⟩ := hre
    have c2 : WH re deep true := ⟨hr.lt, by omega, fun _ => ⟨l, hl, hr⟩, by simp⟩
    obtain ⟨q, hq⟩ : ∃ q, q + l = deep := ⟨deep - l, by omega⟩
    have x1 : (deep : Int) - (l : Int) = (q : Int) := by omega
    obtain ⟨n, hn⟩ : ∃ n, 2 ^ q = n := ⟨_, rfl⟩
    have c3 := leaves_is q n w (by omega) hn
    have b1 : n ≤ 65536 := by rw [← hn]; exact pow_le q (by omega)
    have b0 : 1 ≤ n := by rw [← hn]; exact pow_pos' q
    obtain ⟨m, hm⟩ : ∃ m, m + 1 = n := ⟨n - 1, by omega⟩
    have x2 : (n : Int) - 1 = (m : Int) := by omega
    have c4 : WH im m false := ⟨h2, by omega, by simp, fun _ p hp h => hs l p ⟨hr, h, hl, by rw [show deep - l = q by omega, hn]; omega⟩⟩
    have i1 := int_run hr (by omega)
    have b2 : l ≤ 16 := by omega
    have C2 := Lib.hid c2; have C3 := Lib.hid c3; have C4 := Lib.hid c4
    clear c2 c3 c4 hs hn hq hm hr hl h1 h2
    go_enter Tryd.func45, Tryd.ntmps45
    go_wp2_with (first | (go_at_call 47; refine C1.out.mono ?_; rintro e' w' ⟨rfl, rfl⟩) | (go_at_call 48; refine C3.out.mono ?_; rintro e' w' ⟨rfl, rfl⟩) | (go_at_call 55; refine (isWhole_is (by first | exact C2.out | exact C4.out) _).mono ?_; rintro e' w' ⟨rfl, rfl⟩) | go_in)
    go_ret
    exact ⟨rfl, rfl⟩
  · have C2 := Lib.hid (show WH re deep false from ⟨h1, by omega, by simp, fun _ l hl h => hre ⟨l, hl, h⟩⟩)
    clear hs hre h1 h2
    go_enter Tryd.func45, Tryd.ntmps45
    go_wp2_with (first | (go_at_call 47; refine C1.out.mono ?_; rintro e' w' ⟨rfl, rfl⟩) | (go_at_call 55; refine (isWhole_is C2.out _).mono ?_; rintro e' w' ⟨rfl, rfl⟩) | go_in)
    go_ret
    exact ⟨rfl, rfl⟩

set_option maxHeartbeats 1000000 in
theorem parts_yes (re im l p : Nat) (w : World) (hs : Spot re im 16 l p) :
    Calls Tryd.prog 32 #[.complex .f64 re im] w fun e w' => e = .returned (.tuple #[.float .f64 (fl l), .float .f64 (fl p), .bool true]) ∧ w = w' := by
  have C1 := Lib.hid (right_yes re im 16 l p w hs (by decide))
  have C2 : Hid (Ab re (fl l)) := Lib.hid ⟨l, by have := hs.lev; omega, hs.re, rfl⟩
  have C3 : Hid (Ab im (fl p)) := Lib.hid ⟨p, by have := hs.small (by decide); omega, hs.im, rfl⟩
  obtain ⟨x, hx⟩ : ∃ x, fl l = x := ⟨_, rfl⟩
  obtain ⟨y, hy⟩ : ∃ y, fl p = y := ⟨_, rfl⟩
  rw [hx] at C2 ⊢
  rw [hy] at C3 ⊢
  clear hs hx hy
  go_enter Tryd.func32, Tryd.ntmps32
  go_wp2_with (first | (go_at_call 45; refine C1.out.mono ?_; rintro e' w' ⟨rfl, rfl⟩) | (go_at_call 46; refine (abs_at (by first | exact C2.out | exact C3.out) _).mono ?_; rintro e' w' ⟨rfl, rfl⟩) | go_in)
  go_ret3
  exact ⟨rfl, rfl⟩
set_option maxHeartbeats 1000000 in
theorem parts_no (re im : Nat) (w : World) (h1 : re < 2 ^ 64) (h2 : im < 2 ^ 64) (hs : ∀ l p, ¬ Spot re im 16 l p) :
    Calls Tryd.prog 32 #[.complex .f64 re im] w fun e w' => e = .returned (.tuple #[.float .f64 0, .float .f64 0, .bool false]) ∧ w = w' := by
  have C1 := Lib.hid (right_no re im 16 w h1 h2 hs (by decide))
  clear hs h1 h2
  go_enter Tryd.func32, Tryd.ntmps32
  go_wp2_with (first | (go_at_call 45; refine C1.out.mono ?_; rintro e' w' ⟨rfl, rfl⟩) | go_in)
  go_ret3
  exact ⟨rfl, rfl⟩
end Go.Proofs.YtkplkfokpniflaaDoor.Sp

namespace Go.Proofs.YtkplkfokpniflaaDoor.Sp
set_option linter.all false
set_option maxRecDepth 100000
open Go.RowKit Fl

/-- what a complex number is: the spot of a level and a place, or none at all -/
def Is (re im : Nat) : Option (Nat × Nat) → Prop
  | some (l, p) => Spot re im 16 l p
  | none => re < 2 ^ 64 ∧ im < 2 ^ 64 ∧ ∀ l p, ¬ Spot re im 16 l p
theorem is_any (re im : Nat) (h1 : re < 2 ^ 64) (h2 : im < 2 ^ 64) : ∃ o, Is re im o := by
  by_cases h : ∃ l p, Spot re im 16 l p
  · obtain ⟨l, p, h⟩ := h; exact ⟨some (l, p), h⟩
  · exact ⟨none, h1, h2, fun l p hs => h ⟨l, p, hs⟩⟩
def upF : Option (Nat × Nat) → Nat × Nat
  | some (l, p) => if l = 16 then (0, 0) else (l + 1, p / 2)
  | none => (0, 0)
def downF (right : Bool) : Option (Nat × Nat) → Nat × Nat
  | some (l, p) => if l = 0 then (0, 0) else (l - 1, 2 * p + (if right then 1 else 0))
  | none => (0, 0)
def indexF : Option (Nat × Nat) → Int
  | some (l, p) => (2 * p + 1 : Nat) * 2 ^ l - 1
  | none => -1
def overF (i : Int) : Option (Nat × Nat) → Bool
  | some (l, p) => decide (0 ≤ i ∧ i < 65536 ∧ i / 2 ^ l = p)
  | none => false
/-- the words x and y are the level and the place of a pair -/
structure Ws (q : Nat × Nat) (x y : Nat) : Prop where
  x : fl q.1 = x
  y : fl q.2 = y

/-- what parts tells -/
structure Pt (re im x y : Nat) (b : Bool) : Prop where
  is : ∃ o, Is re im o ∧ ((∃ l p, o = some (l, p) ∧ fl l = x ∧ fl p = y ∧ b = true) ∨ (o = none ∧ x = 0 ∧ y = 0 ∧ b = false))
theorem parts_is {re im x y : Nat} {b : Bool} (h : Pt re im x y b) (w : World) :
    Calls Tryd.prog 32 #[.complex .f64 re im] w fun e w' => e = .returned (.tuple #[.float .f64 x, .float .f64 y, .bool b]) ∧ w = w' := by
  obtain ⟨o, ho, ⟨l, p, rfl, rfl, rfl, rfl⟩ | ⟨rfl, rfl, rfl, rfl⟩⟩ := h.is
  · exact parts_yes re im l p w ho
  · exact parts_no re im w ho.1 ho.2.1 ho.2.2

theorem number_lt {l p : Nat} (h : p < 2 ^ (16 - l)) (hl : l ≤ 16) : (2 * p + 1) * 2 ^ l + 1 ≤ 131072 := by
  have e : (2 * p + 2) * 2 ^ l ≤ 2 * 2 ^ (16 - l) * 2 ^ l := Nat.mul_le_mul_right _ (by omega)
  have e2 : 2 * 2 ^ (16 - l) * 2 ^ l = 131072 := by
    rw [Nat.mul_assoc, ← Nat.pow_add, show 16 - l + l = 16 by omega]
  have e3 : (2 * p + 2) * 2 ^ l = (2 * p + 1) * 2 ^ l + 2 ^ l := by rw [show 2 * p + 2 = (2 * p + 1) + 1 by omega, Nat.add_mul, Nat.one_mul]
  have := Nat.two_pow_pos l
  omega

theorem fadd {x y r : Nat} (h : Ieee.double.add x y = some r) (t : TypeId) (w : World) : (binOp .add t (.float .f64 x) (.float .f64 y)).run Tryd.prog w = .ok (.float .f64 r) w := run_float_arith w .add t .f64 x y r h
theorem fsub {x y r : Nat} (h : Ieee.double.sub x y = some r) (t : TypeId) (w : World) : (binOp .sub t (.float .f64 x) (.float .f64 y)).run Tryd.prog w = .ok (.float .f64 r) w := run_float_arith w .sub t .f64 x y r h
theorem fmul {x y r : Nat} (h : Ieee.double.mul x y = some r) (t : TypeId) (w : World) : (binOp .mul t (.float .f64 x) (.float .f64 y)).run Tryd.prog w = .ok (.float .f64 r) w := run_float_arith w .mul t .f64 x y r h
theorem fdiv {x y r : Nat} (h : Ieee.double.div x y = some r) (t : TypeId) (w : World) : (binOp .quo t (.float .f64 x) (.float .f64 y)).run Tryd.prog w = .ok (.float .f64 r) w := run_float_arith w .quo t .f64 x y r h

end Go.Proofs.YtkplkfokpniflaaDoor.Sp

namespace Go.Proofs.YtkplkfokpniflaaDoor.Sp
set_option linter.all false
set_option maxRecDepth 100000
open Go.RowKit Fl

theorem cadd {a b c d x y : Nat} (h1 : Ieee.double.add a c = some x) (h2 : Ieee.double.add b d = some y) (t : TypeId) (w : World) : (binOp .add t (.complex .f64 a b) (.complex .f64 c d)).run Tryd.prog w = .ok (.complex .f64 x y) w := by
  refine run_complex_sum w .add (.inl rfl) t .f64 a b c d x y ?_
  have e1 : floatBits .add .f64 a c = some x := h1
  have e2 : floatBits .add .f64 b d = some y := h2
  simp [cSumBits, e1, e2]

set_option maxHeartbeats 1000000 in
theorem down_is (re im x y : Nat) (right : Bool) (o : Option (Nat × Nat)) (w : World) (ho : Is re im o) (hn : Ws (downF right o) x y) :
    Calls Tryd.prog 35 #[.complex .f64 re im, .bool right] w fun e w' => e = .returned (.complex .f64 x y) ∧ w = w' := by
  rcases o with _ | ⟨l, p⟩
  · have C1 : Hid (Pt re im 0 0 false) := Lib.hid ⟨none, ho, .inr ⟨rfl, rfl, rfl, rfl⟩⟩
    obtain rfl : 0 = x := by rw [← hn.x]; exact fl0.symm
    obtain rfl : 0 = y := by rw [← hn.y]; exact fl0.symm
    clear ho hn
    go_enter Tryd.func35, Tryd.ntmps35
    go_wp2_with (first | (go_at_call 32; refine (parts_is C1.out _).mono ?_; rintro e' w' ⟨rfl, rfl⟩) | go_in)
    go_ret
    exact ⟨rfl, rfl⟩
  · have hs : Spot re im 16 l p := ho
    have b1 := hs.lev
    have b2 := hs.small (by decide)
    have C1 : Hid (Pt re im (fl l) (fl p) true) := Lib.hid ⟨some (l, p), ho, .inl ⟨l, p, rfl, rfl, rfl, rfl⟩⟩
    have o1 := order_nz (nz_fl l) (nz_fl 0) (by omega) (by decide)
    rw [fl0] at o1
    by_cases h0 : l = 0
    · have o2 : FloatKind.f64.format.order (fl l) 0 = some .eq := by rw [show FloatKind.f64.format = Ieee.double from rfl, o1, Nat.compare_eq_eq.2 h0]
      obtain rfl : 0 = x := by rw [← hn.x]; simp [downF, h0, fl0]
      obtain rfl : 0 = y := by rw [← hn.y]; simp [downF, h0, fl0]
      obtain ⟨lx, hx⟩ : ∃ x, fl l = x := ⟨_, rfl⟩
      obtain ⟨py, hy⟩ : ∃ y, fl p = y := ⟨_, rfl⟩
      rw [hx] at C1 o2
      rw [hy] at C1
      clear ho hn hs o1 hx hy h0
      go_enter Tryd.func35, Tryd.ntmps35
      go_wp2_with (first | (go_at_call 32; refine (parts_is C1.out _).mono ?_; rintro e' w' ⟨rfl, rfl⟩) | go_in)
      go_ret
      exact ⟨rfl, rfl⟩
    · have o2 : FloatKind.f64.format.order (fl l) 0 = some .gt := by rw [show FloatKind.f64.format = Ieee.double from rfl, o1, Nat.compare_eq_gt.2 (by omega)]
      have hx' : fl (l - 1) = x := by rw [← hn.x]; simp [downF, h0]
      have a1 := Fl.sub l 1 (by omega) (by omega)
      rw [fl1, hx'] at a1
      have f1 := fsub a1
      have a2 := Fl.mul 2 p (by decide) (by omega) (by omega)
      rw [fl2] at a2
      have f2 := fmul a2
      have hy' : fl (2 * p + (if right then 1 else 0)) = y := by rw [← hn.y]; simp [downF, h0]
      obtain ⟨lx, hx⟩ : ∃ x, fl l = x := ⟨_, rfl⟩
      obtain ⟨py, hy⟩ : ∃ y, fl p = y := ⟨_, rfl⟩
      obtain ⟨z, hz⟩ : ∃ z, fl (2 * p) = z := ⟨_, rfl⟩
      rw [hz] at f2
      rw [hx] at C1 o2 f1
      rw [hy] at C1 f2
      cases right with
      | false =>
        obtain rfl : z = y := by rw [← hz, ← hy']; simp
        clear ho hn hs o1 hx hy h0 hx' hy' a1 a2 hz
        go_enter Tryd.func35, Tryd.ntmps35
        go_wp2_with (first | (go_at_call 32; refine (parts_is C1.out _).mono ?_; rintro e' w' ⟨rfl, rfl⟩) | go_in)
        go_ret
        exact ⟨rfl, rfl⟩
      | true =>
        have a3 := Fl.add (l - 1) 0 (by omega)
        rw [fl0, hx', Nat.add_zero, hx'] at a3
        have a4 := Fl.add (2 * p) 1 (by omega)
        rw [fl1, hz, show 2 * p + 1 = 2 * p + (if (true : Bool) then 1 else 0) by simp, hy'] at a4
        have f3 := cadd a3 a4
        clear ho hn hs o1 hx hy h0 hx' hy' a1 a2 a3 a4 hz
        go_enter Tryd.func35, Tryd.ntmps35
        go_wp2_with (first | (go_at_call 32; refine (parts_is C1.out _).mono ?_; rintro e' w' ⟨rfl, rfl⟩) | go_in)
        go_ret
        exact ⟨rfl, rfl⟩

set_option maxHeartbeats 1000000 in
theorem isLeaf_is (i d : Int) (b : Bool) (w : World) (hb : decide (0 ≤ d ∧ d ≤ 16 ∧ 0 ≤ i ∧ i < 2 ^ d.toNat) = b) :
    Calls Tryd.prog 33 #[.int .i64 i, .int .i64 d] w fun e w' => e = .returned (.bool b) ∧ w = w' := by
  by_cases hd : 0 ≤ d ∧ d ≤ 16
  · obtain ⟨k, rfl⟩ := Int.eq_ofNat_of_zero_le hd.1
    have C1 := Lib.hid (isDeep_yes k w (by omega))
    obtain ⟨n, hn⟩ : ∃ n, 2 ^ k = n := ⟨_, rfl⟩
    have C2 := Lib.hid (leaves_is k n w (by omega) hn)
    have e : (2 : Int) ^ ((k : Int).toNat) = (n : Int) := by rw [← hn]; simp
    rw [e] at hb
    by_cases h0 : 0 ≤ i
    · by_cases h1 : i < (n : Int)
      · obtain rfl : true = b := by rw [← hb]; exact (decide_eq_true ⟨hd.1, hd.2, h0, h1⟩).symm
        clear hb e hn
        go_enter Tryd.func33, Tryd.ntmps33
        go_wp2_with (first | (go_at_call 47; refine C1.out.mono ?_; rintro e' w' ⟨rfl, rfl⟩) | (go_at_call 48; refine C2.out.mono ?_; rintro e' w' ⟨rfl, rfl⟩) | go_in)
        go_ret
        exact ⟨rfl, rfl⟩
      · obtain rfl : false = b := by rw [← hb]; exact (decide_eq_false fun h => h1 h.2.2.2).symm
        clear hb e hn
        go_enter Tryd.func33, Tryd.ntmps33
        go_wp2_with (first | (go_at_call 47; refine C1.out.mono ?_; rintro e' w' ⟨rfl, rfl⟩) | (go_at_call 48; refine C2.out.mono ?_; rintro e' w' ⟨rfl, rfl⟩) | go_in)
        go_ret
        exact ⟨by simp [h1], rfl⟩
    · obtain rfl : false = b := by rw [← hb]; exact (decide_eq_false fun h => h0 h.2.2.1).symm
      clear hb e hn
      go_enter Tryd.func33, Tryd.ntmps33
      go_wp2_with (first | (go_at_call 47; refine C1.out.mono ?_; rintro e' w' ⟨rfl, rfl⟩) | go_in)
      go_ret
      exact ⟨rfl, rfl⟩
  · obtain rfl : false = b := by rw [← hb]; exact (decide_eq_false fun h => hd ⟨h.1, h.2.1⟩).symm
    have C1 := Lib.hid (isDeep_no d w hd)
    clear hb hd
    go_enter Tryd.func33, Tryd.ntmps33
    go_wp2_with (first | (go_at_call 47; refine C1.out.mono ?_; rintro e' w' ⟨rfl, rfl⟩) | go_in)
    go_ret
    exact ⟨rfl, rfl⟩
theorem leaf16 (i : Int) (w : World) : Calls Tryd.prog 33 #[.int .i64 i, .int .i64 16] w fun e w' => e = .returned (.bool (decide (0 ≤ i ∧ i < 65536))) ∧ w = w' := by
  refine isLeaf_is i 16 _ w ?_
  congr 1
  simp

set_option maxHeartbeats 1000000 in
theorem spotOf_is (l p x y : Nat) (w : World) (hw : Ws (l, p) x y) :
    Calls Tryd.prog 34 #[.int .i64 (l : Int), .int .i64 (p : Int)] w fun e w' => e = .returned (.complex .f64 x y) ∧ w = w' := by
  have n1 := nearest_is l
  have n2 := nearest_is p
  rw [show fl l = x from hw.x] at n1
  rw [show fl p = y from hw.y] at n2
  clear hw
  go_enter Tryd.func34, Tryd.ntmps34
  go_wp2
  go_ret
  exact ⟨rfl, rfl⟩

/-- the spot of a leaf, or nought -/
def leafF (i : Int) : Nat × Nat := if 0 ≤ i ∧ i < 65536 then (0, i.toNat) else (0, 0)
set_option maxHeartbeats 1000000 in
theorem leaf_is (i : Int) (x y : Nat) (w : World) (hw : Ws (leafF i) x y) :
    Calls Tryd.prog 23 #[.int .i64 i] w fun e w' => e = .returned (.complex .f64 x y) ∧ w = w' := by
  have C1 := Lib.hid (leaf16 i w)
  by_cases h : 0 ≤ i ∧ i < 65536
  · rw [decide_eq_true h] at C1
    have hw : Ws (0, i.toNat) x y := by rwa [leafF, if_pos h] at hw
    obtain ⟨k, rfl⟩ := Int.eq_ofNat_of_zero_le h.1
    have C2 := Lib.hid (spotOf_is 0 k x y w hw)
    clear hw
    go_enter Tryd.func23, Tryd.ntmps23
    go_wp2_with (first | (go_at_call 33; refine C1.out.mono ?_; rintro e' w' ⟨rfl, rfl⟩) | (go_at_call 34; refine C2.out.mono ?_; rintro e' w' ⟨rfl, rfl⟩) | go_in)
    go_ret
    exact ⟨rfl, rfl⟩
  · rw [decide_eq_false h] at C1
    rw [leafF, if_neg h] at hw
    obtain rfl : 0 = x := by rw [← hw.x]; exact fl0.symm
    obtain rfl : 0 = y := by rw [← hw.y]; exact fl0.symm
    clear hw h
    go_enter Tryd.func23, Tryd.ntmps23
    go_wp2_with (first | (go_at_call 33; refine C1.out.mono ?_; rintro e' w' ⟨rfl, rfl⟩) | go_in)
    go_ret
    exact ⟨rfl, rfl⟩

set_option maxHeartbeats 1000000 in
theorem over_is (re im : Nat) (i : Int) (o : Option (Nat × Nat)) (b : Bool) (w : World) (ho : Is re im o) (hb : overF i o = b) :
    Calls Tryd.prog 22 #[.complex .f64 re im, .int .i64 i] w fun e w' => e = .returned (.bool b) ∧ w = w' := by
  rcases o with _ | ⟨l, p⟩
  · have C1 : Hid (Pt re im 0 0 false) := Lib.hid ⟨none, ho, .inr ⟨rfl, rfl, rfl, rfl⟩⟩
    obtain rfl : false = b := hb
    clear ho
    go_enter Tryd.func22, Tryd.ntmps22
    go_wp2_with (first | (go_at_call 32; refine (parts_is C1.out _).mono ?_; rintro e' w' ⟨rfl, rfl⟩) | go_in)
    go_ret
    exact ⟨rfl, rfl⟩
  · have hs : Spot re im 16 l p := ho
    have b1 := hs.lev
    have b2 := hs.small (by decide)
    have C1 : Hid (Pt re im (fl l) (fl p) true) := Lib.hid ⟨some (l, p), ho, .inl ⟨l, p, rfl, rfl, rfl, rfl⟩⟩
    have C2 := Lib.hid (leaf16 i w)
    have i1 := int_run (nz_fl l) (by omega)
    have i2 := int_run (nz_fl p) (by omega)
    obtain ⟨x, hx⟩ : ∃ x, fl l = x := ⟨_, rfl⟩
    obtain ⟨y, hy⟩ : ∃ y, fl p = y := ⟨_, rfl⟩
    rw [hx] at C1 i1
    rw [hy] at C1 i2
    by_cases h : 0 ≤ i ∧ i < 65536
    · rw [decide_eq_true h] at C2
      obtain ⟨k, rfl⟩ := Int.eq_ofNat_of_zero_le h.1
      obtain ⟨q, hq⟩ : ∃ q, k / 2 ^ l = q := ⟨_, rfl⟩
      have x1 : (k : Int) / 2 ^ l = (q : Int) := by rw [← hq]; simp
      have x2 : ((q : Int) == (p : Int)) = b := by
        rw [← hb]
        simp only [overF, x1]
        rw [Bool.eq_iff_iff]
        simp only [beq_iff_eq, decide_eq_true_eq]
        exact ⟨fun e => ⟨h.1, h.2, e⟩, fun e => e.2.2⟩
      clear ho hs hx hy hb hq
      go_enter Tryd.func22, Tryd.ntmps22
      go_wp2_with (first | (go_at_call 32; refine (parts_is C1.out _).mono ?_; rintro e' w' ⟨rfl, rfl⟩) | (go_at_call 33; refine C2.out.mono ?_; rintro e' w' ⟨rfl, rfl⟩) | go_in)
      go_ret
      exact ⟨rfl, rfl⟩
    · rw [decide_eq_false h] at C2
      obtain rfl : false = b := by rw [← hb]; simp only [overF]; exact (decide_eq_false fun e => h ⟨e.1, e.2.1⟩).symm
      clear ho hs hx hy hb h
      go_enter Tryd.func22, Tryd.ntmps22
      go_wp2_with (first | (go_at_call 32; refine (parts_is C1.out _).mono ?_; rintro e' w' ⟨rfl, rfl⟩) | (go_at_call 33; refine C2.out.mono ?_; rintro e' w' ⟨rfl, rfl⟩) | go_in)
      go_ret
      exact ⟨rfl, rfl⟩
end Go.Proofs.YtkplkfokpniflaaDoor.Sp
