/- Plain mathematics of tags and of keys made of keys; nothing of the program. -/
import Derived.Test.YtfcnhendebjjeaaDoorShaPlain
namespace Go.Proofs.YtfcnhendebjjeaaDoor.Sha
set_option linter.all false

theorem sum_len (l : List Nat) : (sum l).length = 32 := sumOf_len _
theorem gt_mem_lt {l : List Nat} (h : ∀ v ∈ l, v < 256) : ∀ j, gt l j < 256 := by
  intro j
  by_cases hj : j < l.length
  · exact h _ (gt_mem hj)
  · rw [gt_ge _ _ (by omega)]; omega
theorem sum_lt (l : List Nat) : ∀ j, gt (sum l) j < 256 := gt_mem_lt (sumOf_lt _)
theorem xor256 {a b : Nat} (ha : a < 256) (hb : b < 256) : a ^^^ b < 256 := Nat.xor_lt_two_pow (n := 8) ha hb

/-- a key as long as a block -/
def keyed (key : List Nat) : List Nat := if 64 < key.length then sum key else key
def blockK (key : List Nat) : List Nat := tab 64 fun i => gt (keyed key) i
theorem keyed_lt {key : List Nat} (h : ∀ j, gt key j < 256) : ∀ j, gt (keyed key) j < 256 := by
  unfold keyed; split
  · exact sum_lt _
  · exact h
theorem keyed_len (key : List Nat) : (keyed key).length ≤ 64 := by
  unfold keyed; split
  · rw [sum_len]; omega
  · omega
theorem ok_blockK {key : List Nat} (h : ∀ j, gt key j < 256) : Ok 256 64 (blockK key) := ok_tab (by omega) _ fun i _ => keyed_lt h i
/-- each byte unlike a mark -/
def xorTo (b : List Nat) (m k : Nat) : List Nat := tab 64 fun i => if i < k then gt b i ^^^ m else gt b i
def xored (b : List Nat) (m : Nat) : List Nat := xorTo b m 64
theorem ok_xorTo {b : List Nat} (h : Ok 256 64 b) {m : Nat} (hm : m < 256) (k : Nat) : Ok 256 64 (xorTo b m k) :=
  ok_tab (by omega) _ fun i _ => by split <;> first | exact xor256 (h.2 i) hm | exact h.2 i
theorem xorTo_zero {b : List Nat} (h : Ok 256 64 b) (m : Nat) : xorTo b m 0 = b :=
  ext_gt (tab_len _ _) h.1 fun i hi => by unfold xorTo; rw [gt_tab _ _ _ hi, if_neg (by omega)]
theorem gt_xorTo {b : List Nat} {m k : Nat} (hk : k < 64) : gt (xorTo b m k) k = gt b k := by
  unfold xorTo; rw [gt_tab _ _ _ hk, if_neg (by omega)]
theorem xorTo_succ {b : List Nat} {m k : Nat} (hk : k < 64) : (xorTo b m k).set k (gt b k ^^^ m) = xorTo b m (k + 1) := by
  refine ext_gt (n := 64) (by rw [List.length_set]; exact tab_len _ _) (tab_len _ _) fun i hi => ?_
  rw [gt_set _ _ _ _ (by rw [show (xorTo b m k).length = 64 from tab_len _ _]; exact hk)]
  unfold xorTo
  rw [gt_tab _ _ _ hi, gt_tab _ _ _ hi]
  by_cases e : i = k
  · subst e; rw [if_pos rfl, if_pos (by omega)]
  · rw [if_neg e]
    by_cases h2 : i < k
    · rw [if_pos h2, if_pos (by omega)]
    · rw [if_neg h2, if_neg (by omega)]
theorem xored_len (b : List Nat) (m : Nat) : (xored b m).length = 64 := tab_len _ _
theorem ok_xored {b : List Nat} (h : Ok 256 64 b) {m : Nat} (hm : m < 256) : Ok 256 64 (xored b m) := ok_xorTo h hm 64

/-- a text's tag under a block -/
def tag (k t : List Nat) : List Nat := sum (xored k 92 ++ sum (xored k 54 ++ t))
def mac (key t : List Nat) : List Nat := tag (blockK key) t
theorem tag_len (k t : List Nat) : (tag k t).length = 32 := sum_len _
theorem tag_lt (k t : List Nat) : ∀ j, gt (tag k t) j < 256 := sum_lt _
theorem mac_len (k t : List Nat) : (mac k t).length = 32 := sum_len _
theorem mac_lt (k t : List Nat) : ∀ j, gt (mac k t) j < 256 := sum_lt _

/-- the pieces, and those that have come, one behind the other -/
def piece (k info : List Nat) : Nat → List Nat
  | 0 => []
  | i + 1 => tag k (piece k info i ++ (info ++ [i + 1]))
def upto (k info : List Nat) : Nat → List Nat
  | 0 => []
  | i + 1 => upto k info i ++ piece k info (i + 1)
theorem piece_len (k info : List Nat) (i : Nat) : (piece k info (i + 1)).length = 32 := tag_len _ _
theorem piece_lt (k info : List Nat) : ∀ i, ∀ j, gt (piece k info i) j < 256
  | 0 => fun j => by rw [show piece k info 0 = [] from rfl, gt_ge _ _ (by simp)]; omega
  | _ + 1 => tag_lt _ _
theorem upto_len (k info : List Nat) : ∀ i, (upto k info i).length = 32 * i
  | 0 => rfl
  | i + 1 => by
    show (upto k info i ++ piece k info (i + 1)).length = _
    rw [List.length_append, upto_len k info i, piece_len]; omega
/-- what is expanded -/
def expand (key info : List Nat) (n : Nat) : List Nat := (upto (blockK key) info 255).take n
theorem upto_take (k info : List Nat) (i d : Nat) : (upto k info (i + d)).take (32 * i) = upto k info i := by
  induction d with
  | zero => rw [Nat.add_zero]; exact List.take_of_length_le (by rw [upto_len]; omega)
  | succ d ih =>
    show (upto k info (i + d) ++ piece k info (i + d + 1)).take (32 * i) = _
    rw [List.take_append_of_le_length (by rw [upto_len]; omega), ih]
theorem expand_len (key info : List Nat) (n : Nat) (h : n ≤ 8160) : (expand key info n).length = n := by
  unfold expand; rw [List.length_take, upto_len]; omega
theorem upto_lt (k info : List Nat) : ∀ i, ∀ j, gt (upto k info i) j < 256
  | 0 => fun j => by rw [show upto k info 0 = [] from rfl, gt_ge _ _ (by simp)]; omega
  | i + 1 => fun j => by
    show gt (upto k info i ++ piece k info (i + 1)) j < 256
    rw [gt_append]; split
    · exact upto_lt k info i _
    · exact piece_lt k info (i + 1) _
theorem expand_take {k info : List Nat} {n i : Nat} (hi : i ≤ 255) (h : n ≤ 32 * i) : (upto k info 255).take n = (upto k info i).take n := by
  obtain ⟨d, hd⟩ : ∃ d, 255 = i + d := ⟨255 - i, by omega⟩
  rw [← upto_take k info i d, ← hd, List.take_take, Nat.min_eq_left h]
theorem expand_more (key info : List Nat) (n m : Nat) : (expand key info (n + m)).take n = expand key info n := by
  unfold expand; rw [List.take_take, Nat.min_eq_left (by omega)]

/-- an info -/
def two (n : Nat) : List Nat := [n / 256 % 256, n % 256]
def lenB (n : Nat) : List Nat := if n < 64 then [n] else two (n + 16384)
def front : List Nat := [71, 75, 65, 32, 49, 46, 48, 32]
def infoL (label context : List Nat) (n : Nat) : List Nat := two n ++ ([8 + label.length] ++ (front ++ (label ++ (lenB context.length ++ context))))

end Go.Proofs.YtfcnhendebjjeaaDoor.Sha
