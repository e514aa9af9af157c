/- Plain mathematics of SHA-256 as the program reckons it: words, a block, taking, the end, the sum; nothing of the program. Plain mathematics of tags and of keys made of keys; nothing of the program. Memory: what has turned, rows, tables, slices of bytes; nothing of the program's functions. Walks: RotateLeft32, right, turned. Walks: wordsOf. A hash as it lies in memory: its cells. Walks: change. Walks: Write. -/
import Derived.Laws.BitsAllLaws
import Derived.WalkKit
import Derived.Deep.OwnRows
import Derived.Deep.Draws
import Derived.Maps.AppendAt
import Derived.Deep.AppendLies
import Derived.Laws.CopyOwn
import Derived.Deep.WholeRow
import Derived.Test.YtkplkfokpniflaaDoorChecked
import Derived.WalkSpells
import Derived.WalkLawsBesides
import Derived.RegionTactic
import Derived.BigRegion
import Derived.BigQuiet
import Derived.Deep.QuietTactic
import Derived.Outline
import Derived.Lib.Hide
import Derived.StillTailTactics
import Derived.WalkMore
import Derived.ScopeJumps
namespace Go.Proofs.YtkplkfokpniflaaDoor.Sha
set_option linter.all false

def gt (ws : List Nat) (i : Nat) : Nat := ws.getD i 0
def tab (n : Nat) (g : Nat → Nat) : List Nat := (List.range n).map g
theorem gt_set (ws : List Nat) (i j v : Nat) (h : i < ws.length) : gt (ws.set i v) j = if j = i then v else gt ws j := by
  unfold gt
  rw [List.getD_eq_getElem?_getD, List.getD_eq_getElem?_getD, List.getElem?_set]
  by_cases e : i = j
  · subst e; simp [h]
  · rw [if_neg e, if_neg (fun x => e x.symm)]
theorem gt_tab (n : Nat) (g : Nat → Nat) (i : Nat) (h : i < n) : gt (tab n g) i = g i := by
  unfold gt tab
  rw [List.getD_eq_getElem?_getD, List.getElem?_map, List.getElem?_range h]; rfl
theorem gt_ge (ws : List Nat) (i : Nat) (h : ws.length ≤ i) : gt ws i = 0 := by
  unfold gt
  rw [List.getD_eq_getElem?_getD, List.getElem?_eq_none h]; rfl
theorem tab_len (n : Nat) (g : Nat → Nat) : (tab n g).length = n := by simp [tab]
theorem ext_gt {n : Nat} {a b : List Nat} (ha : a.length = n) (hb : b.length = n) (h : ∀ i, i < n → gt a i = gt b i) : a = b := by
  apply List.ext_getElem (by rw [ha, hb])
  intro i h1 h2
  have := h i (by omega)
  unfold gt at this
  rwa [List.getD_eq_getElem?_getD, List.getD_eq_getElem?_getD, List.getElem?_eq_getElem h1, List.getElem?_eq_getElem h2] at this
theorem gt_mem {l : List Nat} {i : Nat} (h : i < l.length) : gt l i ∈ l := by
  unfold gt
  rw [List.getD_eq_getElem?_getD, List.getElem?_eq_getElem h]; exact List.getElem_mem _
theorem gt_append (a b : List Nat) (j : Nat) : gt (a ++ b) j = if j < a.length then gt a j else gt b (j - a.length) := by
  unfold gt
  rw [List.getD_eq_getElem?_getD, List.getElem?_append]
  split
  · rw [List.getD_eq_getElem?_getD]
  · rw [List.getD_eq_getElem?_getD]

/-- n numbers below m -/
def Ok (m n : Nat) (ws : List Nat) : Prop := ws.length = n ∧ ∀ i, gt ws i < m
theorem ok_tab {m n : Nat} (h0 : 0 < m) (g : Nat → Nat) (h : ∀ i, i < n → g i < m) : Ok m n (tab n g) := by
  refine ⟨tab_len n g, fun i => ?_⟩
  by_cases hi : i < n
  · rw [gt_tab n g i hi]; exact h i hi
  · rw [gt_ge _ _ (by rw [tab_len]; omega)]; exact h0
theorem ok_set {m n : Nat} {ws : List Nat} (h : Ok m n ws) (i v : Nat) (hi : i < n) (hv : v < m) : Ok m n (ws.set i v) := by
  refine ⟨by simp [h.1], fun j => ?_⟩
  rw [gt_set ws i j v (by rw [h.1]; exact hi)]
  split
  · exact hv
  · exact h.2 j
abbrev M : Nat := 4294967296
theorem xor_lt {a b : Nat} (ha : a < 4294967296) (hb : b < 4294967296) : a ^^^ b < 4294967296 := Nat.xor_lt_two_pow (n := 32) ha hb
theorem or_lt {a b : Nat} (ha : a < 4294967296) (hb : b < 4294967296) : a ||| b < 4294967296 := Nat.or_lt_two_pow (n := 32) ha hb
theorem and_lt {a b : Nat} (hb : b < 4294967296) : a &&& b < 4294967296 := Nat.and_lt_two_pow (n := 32) a hb

def add (a b : Nat) : Nat := (a + b) % 4294967296
theorem add_lt (a b : Nat) : add a b < 4294967296 := Nat.mod_lt _ (by omega)
def notw (x : Nat) : Nat := 4294967295 - x
theorem notw_lt (x : Nat) : notw x < 4294967296 := by unfold notw; omega
def rotr (x k : Nat) : Nat := (x * 2 ^ (32 - k) % 4294967296) ||| (x / 2 ^ k)
theorem rotr_lt (x k : Nat) (hx : x < 4294967296) : rotr x k < 4294967296 :=
  or_lt (Nat.mod_lt _ (by omega)) (Nat.lt_of_le_of_lt (Nat.div_le_self _ _) hx)
def turned (x a b c : Nat) : Nat := (rotr x a ^^^ rotr x b) ^^^ rotr x c
theorem turned_lt (x a b c : Nat) (hx : x < 4294967296) : turned x a b c < 4294967296 := xor_lt (xor_lt (rotr_lt _ _ hx) (rotr_lt _ _ hx)) (rotr_lt _ _ hx)
def sig0 (x : Nat) : Nat := (rotr x 7 ^^^ rotr x 18) ^^^ (x / 8)
def sig1 (x : Nat) : Nat := (rotr x 17 ^^^ rotr x 19) ^^^ (x / 1024)
theorem sig0_lt (x : Nat) (hx : x < 4294967296) : sig0 x < 4294967296 := xor_lt (xor_lt (rotr_lt _ _ hx) (rotr_lt _ _ hx)) (Nat.lt_of_le_of_lt (Nat.div_le_self _ _) hx)
theorem sig1_lt (x : Nat) (hx : x < 4294967296) : sig1 x < 4294967296 := xor_lt (xor_lt (rotr_lt _ _ hx) (rotr_lt _ _ hx)) (Nat.lt_of_le_of_lt (Nat.div_le_self _ _) hx)

/-- a block's words -/
def packw (w : List Nat) (i v : Nat) : Nat := (gt w (i / 4) * 256 % 4294967296) ||| v
def packTo (b : List Nat) : Nat → List Nat
  | 0 => tab 64 fun _ => 0
  | n + 1 => (packTo b n).set (n / 4) (packw (packTo b n) n (gt b n))
theorem ok_packTo {b : List Nat} (h : Ok 256 64 b) : ∀ n, n ≤ 64 → Ok 4294967296 64 (packTo b n)
  | 0, _ => ok_tab (by omega) _ fun _ _ => by omega
  | n + 1, hn => ok_set (ok_packTo h n (by omega)) _ _ (by omega) (or_lt (Nat.mod_lt _ (by omega)) (by have := h.2 n; omega))
/-- word i + 16 -/
def nextw (w : List Nat) (i : Nat) : Nat := add (add (add (gt w i) (sig0 (gt w (i + 1)))) (gt w (i + 9))) (sig1 (gt w (i + 14)))
def moreTo (w : List Nat) : Nat → List Nat
  | 0 => w
  | n + 1 => (moreTo w n).set (n + 16) (nextw (moreTo w n) n)
theorem ok_moreTo {w : List Nat} (h : Ok 4294967296 64 w) : ∀ n, n ≤ 48 → Ok 4294967296 64 (moreTo w n)
  | 0, _ => h
  | n + 1, hn => ok_set (ok_moreTo h n (by omega)) _ _ (by omega) (add_lt _ _)
def wordsOf (b : List Nat) : List Nat := moreTo (packTo b 64) 48
theorem ok_wordsOf {b : List Nat} (h : Ok 256 64 b) : Ok 4294967296 64 (wordsOf b) := ok_moreTo (ok_packTo h 64 (Nat.le_refl _)) 48 (Nat.le_refl _)

def consT : List Nat := [
  0x428a2f98, 0x71374491, 0xb5c0fbcf, 0xe9b5dba5, 0x3956c25b, 0x59f111f1, 0x923f82a4, 0xab1c5ed5,
  0xd807aa98, 0x12835b01, 0x243185be, 0x550c7dc3, 0x72be5d74, 0x80deb1fe, 0x9bdc06a7, 0xc19bf174,
  0xe49b69c1, 0xefbe4786, 0x0fc19dc6, 0x240ca1cc, 0x2de92c6f, 0x4a7484aa, 0x5cb0a9dc, 0x76f988da,
  0x983e5152, 0xa831c66d, 0xb00327c8, 0xbf597fc7, 0xc6e00bf3, 0xd5a79147, 0x06ca6351, 0x14292967,
  0x27b70a85, 0x2e1b2138, 0x4d2c6dfc, 0x53380d13, 0x650a7354, 0x766a0abb, 0x81c2c92e, 0x92722c85,
  0xa2bfe8a1, 0xa81a664b, 0xc24b8b70, 0xc76c51a3, 0xd192e819, 0xd6990624, 0xf40e3585, 0x106aa070,
  0x19a4c116, 0x1e376c08, 0x2748774c, 0x34b0bcb5, 0x391c0cb3, 0x4ed8aa4a, 0x5b9cca4f, 0x682e6ff3,
  0x748f82ee, 0x78a5636f, 0x84c87814, 0x8cc70208, 0x90befffa, 0xa4506ceb, 0xbef9a3f7, 0xc67178f2]
def firstT : List Nat := [0x6a09e667, 0xbb67ae85, 0x3c6ef372, 0xa54ff53a, 0x510e527f, 0x9b05688c, 0x1f83d9ab, 0x5be0cd19]
theorem cons_lt (i : Nat) (h : i < 64) : gt consT i < 4294967296 := (by decide +kernel : ∀ i : Fin 64, gt consT i.1 < 4294967296) ⟨i, h⟩
theorem ok_first : Ok 4294967296 8 firstT := by
  refine ⟨rfl, fun i => ?_⟩
  by_cases h : i < 8
  · exact (by decide : ∀ i : Fin 8, gt firstT i.1 < 4294967296) ⟨i, h⟩
  · rw [gt_ge _ _ (by show 8 ≤ i; omega)]; omega

def ch (e f g : Nat) : Nat := (e &&& f) ^^^ (notw e &&& g)
theorem ch_lt {e f g : Nat} (hf : f < 4294967296) (hg : g < 4294967296) : ch e f g < 4294967296 := xor_lt (and_lt hf) (and_lt hg)
def maj (a b c : Nat) : Nat := ((a &&& b) ^^^ (a &&& c)) ^^^ (b &&& c)
theorem maj_lt {a b c : Nat} (hb : b < 4294967296) (hc : c < 4294967296) : maj a b c < 4294967296 := xor_lt (xor_lt (and_lt hb) (and_lt hc)) (and_lt hc)
def tOf (s : List Nat) (k w : Nat) : Nat := add (add (add (add (gt s 7) (turned (gt s 4) 6 11 25)) (ch (gt s 4) (gt s 5) (gt s 6))) k) w
def uOf (s : List Nat) : Nat := add (turned (gt s 0) 2 13 22) (maj (gt s 0) (gt s 1) (gt s 2))
def round (s : List Nat) (k w : Nat) : List Nat := [add (tOf s k w) (uOf s), gt s 0, gt s 1, gt s 2, add (gt s 3) (tOf s k w), gt s 4, gt s 5, gt s 6]
theorem gt_cons_zero (x : Nat) (l : List Nat) : gt (x :: l) 0 = x := rfl
theorem gt_cons_succ (x : Nat) (l : List Nat) (i : Nat) : gt (x :: l) (i + 1) = gt l i := rfl
theorem ok_cons {m n x : Nat} {l : List Nat} (hx : x < m) (h : Ok m n l) : Ok m (n + 1) (x :: l) := by
  refine ⟨by simp [h.1], fun i => ?_⟩
  cases i with
  | zero => rw [gt_cons_zero]; exact hx
  | succ i => rw [gt_cons_succ]; exact h.2 i
theorem ok_nil {m : Nat} (h : 0 < m) : Ok m 0 [] := ⟨rfl, fun i => by rw [gt_ge _ _ (Nat.zero_le _)]; exact h⟩
theorem ok_round {s : List Nat} (h : Ok 4294967296 8 s) (k w : Nat) : Ok 4294967296 8 (round s k w) :=
  ok_cons (add_lt _ _) (ok_cons (h.2 0) (ok_cons (h.2 1) (ok_cons (h.2 2) (ok_cons (add_lt _ _) (ok_cons (h.2 4) (ok_cons (h.2 5) (ok_cons (h.2 6) (ok_nil (by omega)))))))))
def roundsTo (w s : List Nat) : Nat → List Nat
  | 0 => s
  | n + 1 => round (roundsTo w s n) (gt consT n) (gt w n)
theorem ok_roundsTo {w s : List Nat} (h : Ok 4294967296 8 s) : ∀ n, Ok 4294967296 8 (roundsTo w s n)
  | 0 => h
  | n + 1 => ok_round (ok_roundsTo h n) _ _
/-- v is added to the first k words of s -/
def sumTo (s v : List Nat) (k : Nat) : List Nat := tab 8 fun i => if i < k then add (gt s i) (gt v i) else gt s i
theorem ok_sumTo {s v : List Nat} (h : Ok 4294967296 8 s) (k : Nat) : Ok 4294967296 8 (sumTo s v k) := by
  refine ok_tab (by omega) _ fun i _ => ?_
  split
  · exact add_lt _ _
  · exact h.2 _
theorem sumTo_zero {s v : List Nat} (h : Ok 4294967296 8 s) : sumTo s v 0 = s := by
  refine ext_gt (tab_len _ _) h.1 fun i hi => ?_
  unfold sumTo; rw [gt_tab _ _ _ hi, if_neg (by omega)]
theorem gt_sumTo {s v : List Nat} {k : Nat} (hk : k < 8) : gt (sumTo s v k) k = gt s k := by
  unfold sumTo; rw [gt_tab _ _ _ hk, if_neg (by omega)]
theorem sumTo_succ {s v : List Nat} {k : Nat} (hk : k < 8) : (sumTo s v k).set k (add (gt s k) (gt v k)) = sumTo s v (k + 1) := by
  refine ext_gt (by simp [sumTo, tab]) (tab_len _ _) fun i hi => ?_
  rw [gt_set _ _ _ _ (by rw [sumTo, tab_len]; exact hk)]
  unfold sumTo
  rw [gt_tab _ _ _ hi, gt_tab _ _ _ hi]
  by_cases e : i = k
  · subst e; simp
  · rw [if_neg e]
    by_cases h : i < k
    · rw [if_pos h, if_pos (by omega)]
    · rw [if_neg h, if_neg (by omega)]
def change (s b : List Nat) : List Nat := sumTo s (roundsTo (wordsOf b) s 64) 8
theorem ok_change {s b : List Nat} (h : Ok 4294967296 8 s) : Ok 4294967296 8 (change s b) := ok_sumTo h 8

/-- a hash: the state, the block that waits, how many bytes there were -/
structure Hs where
  st : List Nat
  buf : List Nat
  n : Nat
structure Good (s : Hs) : Prop where
  st : Ok 4294967296 8 s.st
  buf : Ok 256 64 s.buf
def start : Hs := ⟨firstT, tab 64 fun _ => 0, 0⟩
theorem good_start : Good start := ⟨ok_first, ok_tab (by omega) _ fun _ _ => by omega⟩
def takeOne (s : Hs) (v : Nat) : Hs :=
  if s.n % 64 = 63 then ⟨change s.st (s.buf.set (s.n % 64) v), s.buf.set (s.n % 64) v, s.n + 1⟩ else ⟨s.st, s.buf.set (s.n % 64) v, s.n + 1⟩
theorem good_takeOne {s : Hs} (h : Good s) {v : Nat} (hv : v < 256) : Good (takeOne s v) := by
  unfold takeOne
  have hb := ok_set h.buf (s.n % 64) v (by omega) hv
  split
  · exact ⟨ok_change h.st, hb⟩
  · exact ⟨h.st, hb⟩
theorem takeOne_n (s : Hs) (v : Nat) : (takeOne s v).n = s.n + 1 := by
  unfold takeOne; split <;> rfl
def takeAll (s : Hs) (l : List Nat) : Hs := l.foldl takeOne s
theorem good_takeAll : ∀ (l : List Nat) {s : Hs}, Good s → (∀ i, gt l i < 256) → Good (takeAll s l)
  | [], _, h, _ => h
  | v :: l, _, h, hl => good_takeAll l (good_takeOne h (hl 0)) fun i => hl (i + 1)
theorem takeAll_n : ∀ (l : List Nat) (s : Hs), (takeAll s l).n = s.n + l.length
  | [], _ => rfl
  | v :: l, s => by
    show (takeAll (takeOne s v) l).n = _
    rw [takeAll_n l, takeOne_n]; simp; omega
theorem takeAll_append (s : Hs) (a b : List Nat) : takeAll s (a ++ b) = takeAll (takeAll s a) b := by
  unfold takeAll; rw [List.foldl_append]
/-- l laid over b from o on -/
def over (b : List Nat) (o : Nat) (l : List Nat) : List Nat := tab 64 fun i => if o ≤ i ∧ i < o + l.length then gt l (i - o) else gt b i
theorem over_nil {b : List Nat} (h : b.length = 64) (o : Nat) : over b o [] = b := by
  refine ext_gt (tab_len _ _) h fun i hi => ?_
  unfold over; rw [gt_tab _ _ _ hi, if_neg (by simp)]
theorem over_cons {b : List Nat} (h : b.length = 64) (o v : Nat) (l : List Nat) (ho : o < 64) : over (b.set o v) (o + 1) l = over b o (v :: l) := by
  refine ext_gt (tab_len _ _) (tab_len _ _) fun i hi => ?_
  unfold over
  rw [gt_tab _ _ _ hi, gt_tab _ _ _ hi, gt_set _ _ _ _ (by omega)]
  simp only [List.length_cons]
  by_cases e : i = o
  · subst e
    rw [if_neg (by omega), if_pos rfl, if_pos (by omega)]; simp [gt]
  · by_cases hc : o + 1 ≤ i ∧ i < o + 1 + l.length
    · rw [if_pos hc, if_pos (by omega)]
      obtain ⟨j, rfl⟩ : ∃ j, i = o + 1 + j := ⟨i - (o + 1), by omega⟩
      rw [show o + 1 + j - (o + 1) = j by omega, show o + 1 + j - o = j + 1 by omega]; rfl
    · rw [if_neg hc, if_neg e, if_neg (by omega)]
theorem ok_over {b : List Nat} (h : Ok 256 64 b) (o : Nat) {l : List Nat} (hl : ∀ i, gt l i < 256) : Ok 256 64 (over b o l) := by
  refine ok_tab (by omega) _ fun i _ => ?_
  split
  · exact hl _
  · exact h.2 _
/-- as many as fit into the block, at once -/
theorem take_fit : ∀ (l : List Nat) (s : Hs), s.buf.length = 64 → l ≠ [] → s.n % 64 + l.length ≤ 64 →
    takeAll s l = if s.n % 64 + l.length = 64 then ⟨change s.st (over s.buf (s.n % 64) l), over s.buf (s.n % 64) l, s.n + l.length⟩ else ⟨s.st, over s.buf (s.n % 64) l, s.n + l.length⟩
  | [v], s, hb, _, h => by
    show takeOne s v = _
    have ho : over s.buf (s.n % 64) [v] = s.buf.set (s.n % 64) v := by
      rw [← over_cons hb _ _ _ (by omega), over_nil (by simp [hb])]
    rw [ho]
    unfold takeOne
    simp only [List.length_cons, List.length_nil]
    by_cases e : s.n % 64 = 63
    · rw [if_pos e, if_pos (by omega)]
    · rw [if_neg e, if_neg (by omega)]
  | v :: u :: l, s, hb, _, h => by
    simp only [List.length_cons] at h
    show takeAll (takeOne s v) (u :: l) = _
    have e : takeOne s v = ⟨s.st, s.buf.set (s.n % 64) v, s.n + 1⟩ := by unfold takeOne; rw [if_neg (by omega)]
    rw [e, take_fit (u :: l) _ (by simp [hb]) (by simp) (by simp only [List.length_cons]; omega)]
    have hm : (s.n + 1) % 64 = s.n % 64 + 1 := by omega
    simp only [hm, List.length_cons]
    rw [over_cons hb _ _ _ (by omega)]
    have e1 : s.n % 64 + 1 + (l.length + 1) = s.n % 64 + (l.length + 1 + 1) := by omega
    have e2 : s.n + 1 + (l.length + 1) = s.n + (l.length + 1 + 1) := by omega
    rw [e1, e2]

/-- the end of so many bytes -/
def endLen (n : Nat) : Nat := 1 + (64 - (n + 9) % 64) % 64 + 8
def endAt (n k j : Nat) : Nat := if endLen n - k ≤ j then n * 8 / 2 ^ (8 * (endLen n - 1 - j)) % 256 else if j = 0 then 128 else 0
def endL (n : Nat) : List Nat := tab (endLen n) (endAt n 8)
theorem endLen_ge (n : Nat) : 9 ≤ endLen n := by unfold endLen; omega
theorem endLen_le (n : Nat) : endLen n ≤ 72 := by unfold endLen; omega
theorem endAt_lt (n k j : Nat) : endAt n k j < 256 := by
  unfold endAt
  split
  · exact Nat.mod_lt _ (by omega)
  · split <;> omega
theorem endL_len (n : Nat) : (endL n).length = endLen n := tab_len _ _
theorem endL_lt (n : Nat) : ∀ i, gt (endL n) i < 256 := (ok_tab (m := 256) (by omega) _ fun i _ => endAt_lt n 8 i).2
/-- the state's words as bytes -/
def wbytes (x : Nat) : List Nat := [x / 16777216 % 256, x / 65536 % 256, x / 256 % 256, x % 256]
def toldTo (s : List Nat) : Nat → List Nat
  | 0 => []
  | n + 1 => toldTo s n ++ wbytes (gt s n)
theorem toldTo_len (s : List Nat) : ∀ n, (toldTo s n).length = 4 * n
  | 0 => rfl
  | n + 1 => by
    show (toldTo s n ++ wbytes (gt s n)).length = _
    rw [List.length_append, toldTo_len s n]; simp [wbytes]; omega
def told (s : List Nat) : List Nat := toldTo s 8
theorem told_len (s : List Nat) : (told s).length = 32 := toldTo_len s 8
theorem wbytes_lt (x : Nat) : ∀ v ∈ wbytes x, v < 256 := by
  intro v hv
  simp only [wbytes, List.mem_cons, List.not_mem_nil, or_false] at hv
  rcases hv with rfl | rfl | rfl | rfl <;> omega
theorem toldTo_lt (s : List Nat) : ∀ n, ∀ v ∈ toldTo s n, v < 256
  | 0, v, h => by cases h
  | n + 1, v, h => by
    rcases List.mem_append.1 h with h | h
    · exact toldTo_lt s n v h
    · exact wbytes_lt _ v h
/-- the sum that a hash tells -/
def sumOf (s : Hs) : List Nat := told (takeAll s (endL s.n)).st
theorem sumOf_len (s : Hs) : (sumOf s).length = 32 := told_len _
theorem sumOf_lt (s : Hs) : ∀ v ∈ sumOf s, v < 256 := toldTo_lt _ 8
def sum (l : List Nat) : List Nat := sumOf (takeAll start l)

end Go.Proofs.YtkplkfokpniflaaDoor.Sha

namespace Go.Proofs.YtkplkfokpniflaaDoor.Sha
set_option linter.all false

theorem sum_len (l : List Nat) : (sum l).length = 32 := sumOf_len _
theorem gt_mem_lt {l : List Nat} (h : ∀ v ∈ l, v < 256) : ∀ j, gt l j < 256 := by
  intro j
  by_cases hj : j < l.length
  · exact h _ (gt_mem hj)
  · rw [gt_ge _ _ (by omega)]; omega
theorem sum_lt (l : List Nat) : ∀ j, gt (sum l) j < 256 := gt_mem_lt (sumOf_lt _)
theorem xor256 {a b : Nat} (ha : a < 256) (hb : b < 256) : a ^^^ b < 256 := Nat.xor_lt_two_pow (n := 8) ha hb

/-- a key as long as a block -/
def keyed (key : List Nat) : List Nat := if 64 < key.length then sum key else key
def blockK (key : List Nat) : List Nat := tab 64 fun i => gt (keyed key) i
theorem keyed_lt {key : List Nat} (h : ∀ j, gt key j < 256) : ∀ j, gt (keyed key) j < 256 := by
  unfold keyed; split
  · exact sum_lt _
  · exact h
theorem keyed_len (key : List Nat) : (keyed key).length ≤ 64 := by
  unfold keyed; split
  · rw [sum_len]; omega
  · omega
theorem ok_blockK {key : List Nat} (h : ∀ j, gt key j < 256) : Ok 256 64 (blockK key) := ok_tab (by omega) _ fun i _ => keyed_lt h i
/-- each byte unlike a mark -/
def xorTo (b : List Nat) (m k : Nat) : List Nat := tab 64 fun i => if i < k then gt b i ^^^ m else gt b i
def xored (b : List Nat) (m : Nat) : List Nat := xorTo b m 64
theorem ok_xorTo {b : List Nat} (h : Ok 256 64 b) {m : Nat} (hm : m < 256) (k : Nat) : Ok 256 64 (xorTo b m k) :=
  ok_tab (by omega) _ fun i _ => by split <;> first | exact xor256 (h.2 i) hm | exact h.2 i
theorem xorTo_zero {b : List Nat} (h : Ok 256 64 b) (m : Nat) : xorTo b m 0 = b :=
  ext_gt (tab_len _ _) h.1 fun i hi => by unfold xorTo; rw [gt_tab _ _ _ hi, if_neg (by omega)]
theorem gt_xorTo {b : List Nat} {m k : Nat} (hk : k < 64) : gt (xorTo b m k) k = gt b k := by
  unfold xorTo; rw [gt_tab _ _ _ hk, if_neg (by omega)]
theorem xorTo_succ {b : List Nat} {m k : Nat} (hk : k < 64) : (xorTo b m k).set k (gt b k ^^^ m) = xorTo b m (k + 1) := by
  refine ext_gt (n := 64) (by rw [List.length_set]; exact tab_len _ _) (tab_len _ _) fun i hi => ?_
  rw [gt_set _ _ _ _ (by rw [show (xorTo b m k).length = 64 from tab_len _ _]; exact hk)]
  unfold xorTo
  rw [gt_tab _ _ _ hi, gt_tab _ _ _ hi]
  by_cases e : i = k
  · subst e; rw [if_pos rfl, if_pos (by omega)]
  · rw [if_neg e]
    by_cases h2 : i < k
    · rw [if_pos h2, if_pos (by omega)]
    · rw [if_neg h2, if_neg (by omega)]
theorem xored_len (b : List Nat) (m : Nat) : (xored b m).length = 64 := tab_len _ _
theorem ok_xored {b : List Nat} (h : Ok 256 64 b) {m : Nat} (hm : m < 256) : Ok 256 64 (xored b m) := ok_xorTo h hm 64

/-- a text's tag under a block -/
def tag (k t : List Nat) : List Nat := sum (xored k 92 ++ sum (xored k 54 ++ t))
def mac (key t : List Nat) : List Nat := tag (blockK key) t
theorem tag_len (k t : List Nat) : (tag k t).length = 32 := sum_len _
theorem tag_lt (k t : List Nat) : ∀ j, gt (tag k t) j < 256 := sum_lt _
theorem mac_len (k t : List Nat) : (mac k t).length = 32 := sum_len _
theorem mac_lt (k t : List Nat) : ∀ j, gt (mac k t) j < 256 := sum_lt _

/-- the pieces, and those that have come, one behind the other -/
def piece (k info : List Nat) : Nat → List Nat
  | 0 => []
  | i + 1 => tag k (piece k info i ++ (info ++ [i + 1]))
def upto (k info : List Nat) : Nat → List Nat
  | 0 => []
  | i + 1 => upto k info i ++ piece k info (i + 1)
theorem piece_len (k info : List Nat) (i : Nat) : (piece k info (i + 1)).length = 32 := tag_len _ _
theorem piece_lt (k info : List Nat) : ∀ i, ∀ j, gt (piece k info i) j < 256
  | 0 => fun j => by rw [show piece k info 0 = [] from rfl, gt_ge _ _ (by simp)]; omega
  | _ + 1 => tag_lt _ _
theorem upto_len (k info : List Nat) : ∀ i, (upto k info i).length = 32 * i
  | 0 => rfl
  | i + 1 => by
    show (upto k info i ++ piece k info (i + 1)).length = _
    rw [List.length_append, upto_len k info i, piece_len]; omega
/-- what is expanded -/
def expand (key info : List Nat) (n : Nat) : List Nat := (upto (blockK key) info 255).take n
theorem upto_take (k info : List Nat) (i d : Nat) : (upto k info (i + d)).take (32 * i) = upto k info i := by
  induction d with
  | zero => rw [Nat.add_zero]; exact List.take_of_length_le (by rw [upto_len]; omega)
  | succ d ih =>
    show (upto k info (i + d) ++ piece k info (i + d + 1)).take (32 * i) = _
    rw [List.take_append_of_le_length (by rw [upto_len]; omega), ih]
theorem expand_len (key info : List Nat) (n : Nat) (h : n ≤ 8160) : (expand key info n).length = n := by
  unfold expand; rw [List.length_take, upto_len]; omega
theorem upto_lt (k info : List Nat) : ∀ i, ∀ j, gt (upto k info i) j < 256
  | 0 => fun j => by rw [show upto k info 0 = [] from rfl, gt_ge _ _ (by simp)]; omega
  | i + 1 => fun j => by
    show gt (upto k info i ++ piece k info (i + 1)) j < 256
    rw [gt_append]; split
    · exact upto_lt k info i _
    · exact piece_lt k info (i + 1) _
theorem expand_take {k info : List Nat} {n i : Nat} (hi : i ≤ 255) (h : n ≤ 32 * i) : (upto k info 255).take n = (upto k info i).take n := by
  obtain ⟨d, hd⟩ : ∃ d, 255 = i + d := ⟨255 - i, by omega⟩
  rw [← upto_take k info i d, ← hd, List.take_take, Nat.min_eq_left h]
theorem expand_more (key info : List Nat) (n m : Nat) : (expand key info (n + m)).take n = expand key info n := by
  unfold expand; rw [List.take_take, Nat.min_eq_left (by omega)]

/-- an info -/
def two (n : Nat) : List Nat := [n / 256 % 256, n % 256]
def lenB (n : Nat) : List Nat := if n < 64 then [n] else two (n + 16384)
def front : List Nat := [71, 75, 65, 32, 49, 46, 48, 32]
def infoL (label context : List Nat) (n : Nat) : List Nat := two n ++ ([8 + label.length] ++ (front ++ (label ++ (lenB context.length ++ context))))

end Go.Proofs.YtkplkfokpniflaaDoor.Sha

namespace Go.Proofs.YtkplkfokpniflaaDoor.Sha
set_option linter.all false
open Go.RowKit

theorem rowIs_drewN {w : World} {b : Nat} {t : TypeId} {n : Nat} {f : Nat → Value} (h : w.rowIs b t n f) (k : Nat) : (w.drewN k).rowIs b t n f := h
/-- only block b, and what is new, has turned -/
theorem only_drew {a w : World} {row : Option Nat} (h : a.grownBy w row) : a.grownBy w.drew row := ⟨h.os, h.tape, h.output, h.size, h.block⟩
theorem only_drewN {a w : World} {row : Option Nat} (h : a.grownBy w row) (k : Nat) : a.grownBy (w.drewN k) row := ⟨h.os, h.tape, h.output, h.size, h.block⟩
theorem only_alloc {a w : World} {row : Option Nat} (h : a.grownBy w row) (x : Obj) : a.grownBy (w.alloc x) row :=
  ⟨h.os, h.tape, h.output, Nat.le_trans h.size (by simp), fun i hi hne => (Below.heap_alloc w x i (Nat.lt_of_lt_of_le hi h.size)).trans (h.block i hi hne)⟩
theorem only_set {a w : World} {g : Nat} (h : a.grownBy w (some g)) {p : Addr} (hp : p.block = g ∨ a.heap.size ≤ p.block) (u : Value) : a.grownBy (w.setCell p u) (some g) :=
  ⟨h.os, h.tape, h.output, by simpa [World.setCell] using h.size, fun i hi hne => (Below.heap_setCell w p u i (by
    rintro rfl
    rcases hp with hp | hp
    · exact hne (by rw [hp])
    · omega)).trans (h.block i hi hne)⟩
/-- what follows turns block g' alone, which is new since a, or g -/
theorem only_then {a w c : World} {g g' : Nat} (h : a.grownBy w (some g)) (k : w.grownBy c (some g')) (hg : g' = g ∨ a.heap.size ≤ g') : a.grownBy c (some g) :=
  ⟨k.os.trans h.os, k.tape.trans h.tape, k.output.trans h.output, Nat.le_trans h.size k.size, fun i hi hne =>
    (k.block i (Nat.lt_of_lt_of_le hi h.size) (by
      intro e
      injection e with e
      rcases hg with hg | hg
      · exact hne (by rw [e, hg])
      · omega)).trans (h.block i hi hne)⟩
theorem only_of_below {a w : World} (h : Below a.heap.size a w) (row : Option Nat) : a.grownBy w row := ⟨h.os, h.tape, h.output, h.size, fun i hi _ => h.block i hi⟩
theorem only_below {a w c : World} {g : Nat} (h : a.grownBy w (some g)) (k : Below w.heap.size w c) : a.grownBy c (some g) := only_then h (only_of_below k (some g)) (.inl rfl)
theorem only_setRow {a w : World} {g g' : Nat} (h : a.grownBy w (some g)) (hp : g' = g ∨ a.heap.size ≤ g') (cs : Array Value) : a.grownBy (w.setRow g' cs) (some g) :=
  ⟨h.os, h.tape, h.output, by simpa using h.size, fun i hi hne => (setRow_other w g' i cs (by
    rintro rfl
    rcases hp with hp | hp
    · exact hne (by rw [hp])
    · omega)).trans (h.block i hi hne)⟩
theorem below_of_only {w w1 w2 : World} {g : Nat} (h : Below w.heap.size w w1) (k : w1.grownBy w2 (some g)) (hg : w.heap.size ≤ g) : Below w.heap.size w w2 :=
  ⟨k.os.trans h.os, k.tape.trans h.tape, k.output.trans h.output, Nat.le_trans h.size k.size, fun i hi => (k.block i (Nat.lt_of_lt_of_le hi h.size) (by intro e; injection e; omega)).trans (h.block i hi)⟩

/-- an element of an array value whose elements have one cell -/
theorem run_index_one {P : Program} (t e : TypeId) (n : Nat) (d : TypeDesc) (cs : Array Value) (kd : IntKind) (k : Nat) (v : Value) (ht : P.underlying t = some (.array n e)) (he : P.underlying e = some d)
    (hd : (match d with | .struct _ | .array _ _ => true | _ => false) = false) (hs : (P.info? e).map (·.size) = some 1) (hk : k < n) (hv : cs[k]? = some v) (w : World) :
    (Instr.index t (.agg cs) (.int kd (k : Int))).run P w = .ok v w := by
  have ha : ∀ w, (isAgg e).run P w = .ok false w := fun w => by
    unfold isAgg
    rw [Sem.run_bind, run_underlying he w]
    cases d <;> simp_all
  cases hq : P.info? e with
  | none => simp [hq] at hs
  | some i =>
    have hs1 : i.size = 1 := by simpa [hq] using hs
    simp [Instr.index, asIntOf, run_underlying ht, sizeOf, typeInfo, hq, hs1, part, ha, hv, hk]

/-- a table of numbers that lies whole in a block -/
def numsOf (k : IntKind) (l : List Nat) : Array Value := (l.map fun x => Value.int k ((x : Nat) : Int)).toArray
theorem numsOf_at (k : IntKind) (l : List Nat) (i : Nat) (h : i < l.length) : (numsOf k l)[i]? = some (.int k ((gt l i : Nat) : Int)) := by
  simp [numsOf, gt, List.getD_eq_getElem?_getD, h]
theorem numsOf_size (k : IntKind) (l : List Nat) : (numsOf k l).size = l.length := by simp [numsOf]
theorem numsOf_one (k : IntKind) (l : List Nat) : (numsOf k l).all (·.oneCell') = true := by simp [numsOf, Value.oneCell']
def TabAt (w : World) (g : Nat) (k : IntKind) (l : List Nat) : Prop := ∃ t fr, w.heap[g]? = some (.cells (numsOf k l) t fr)
theorem TabAt.cell {w : World} {g : Nat} {k : IntKind} {l : List Nat} (h : TabAt w g k l) (i : Nat) (hi : i < l.length) : w.cell? ⟨g, i, none⟩ = some (.int k ((gt l i : Nat) : Int)) := by
  obtain ⟨t, fr, h⟩ := h
  rw [cell_of_row w g i _ t fr h, numsOf_at k l i hi]
theorem TabAt.of_block {w w' : World} {g : Nat} {k : IntKind} {l : List Nat} (h : TabAt w g k l) (e : w'.heap[g]? = w.heap[g]?) : TabAt w' g k l := by
  obtain ⟨t, fr, h⟩ := h
  exact ⟨t, fr, e.trans h⟩
theorem TabAt.lt {w : World} {g : Nat} {k : IntKind} {l : List Nat} (h : TabAt w g k l) : g < w.heap.size := by
  obtain ⟨t, fr, h⟩ := h
  obtain ⟨hlt, _⟩ := Array.getElem?_eq_some_iff.1 h
  exact hlt
/-- the two tables of the package, as they lie -/
structure Tables (w : World) : Prop where
  big : 3 ≤ w.heap.size
  first : TabAt w 1 .u32 firstT
  rounds : TabAt w 2 .u32 consT
theorem Tables.keep {w w' : World} (h : Tables w) (e : ∀ g, g < 3 → w'.heap[g]? = w.heap[g]?) : Tables w' :=
  ⟨(by have h5 := e 2 (by decide); rw [Array.getElem?_eq_getElem (h := h.big)] at h5; exact (Array.getElem?_eq_some_iff.1 h5).1), h.first.of_block (e _ (by decide)), h.rounds.of_block (e _ (by decide))⟩
theorem Tables.lt {w : World} (h : Tables w) : 3 ≤ w.heap.size := h.big
theorem Tables.grown {w w' : World} {b : Nat} (h : Tables w) (hg : w.grownBy w' (some b)) (hb : 3 ≤ b) : Tables w' :=
  h.keep fun g hlt => hg.block g (by have := h.lt; omega) (by intro e; injection e; omega)
theorem Tables.below {w w' : World} {B : Nat} (h : Tables w) (hg : Below B w w') (hb : 3 ≤ B) : Tables w' := h.keep fun g hlt => hg.block g (by omega)
theorem Tables.alloc {w : World} (h : Tables w) (o : Obj) : Tables (w.alloc o) := h.keep fun g hlt => Below.heap_alloc w o g (by have := h.lt; omega)
theorem Tables.drew {w : World} (h : Tables w) : Tables w.drew := h.keep fun _ _ => rfl
theorem Tables.drewN {w : World} (h : Tables w) (n : Nat) : Tables (w.drewN n) := h.keep fun _ _ => rfl
theorem Tables.set {w : World} (h : Tables w) {a : Addr} (ha : 3 ≤ a.block) (v : Value) : Tables (w.setCell a v) := h.keep fun g hlt => Below.heap_setCell w a v g (by omega)

/-- words in a block -/
def wordRow (k : IntKind) (ws : List Nat) : Nat → Value := fun i => .int k ((gt ws i : Nat) : Int)
theorem heap_words {w : World} {g n : Nat} {t : TypeId} {k : IntKind} {ws : List Nat} (h : w.rowIs g t n (wordRow k ws)) (hl : ws.length = n) : w.heap[g]? = some (.cells (numsOf k ws) t (0, 0)) := by
  obtain ⟨c, hc, hs, hi⟩ := h
  have e : c = numsOf k ws := by
    apply Array.ext_getElem?
    intro i
    by_cases h : i < n
    · rw [hi i h, numsOf_at k ws i (by omega)]; rfl
    · rw [Array.getElem?_eq_none (by omega), Array.getElem?_eq_none (by rw [numsOf_size]; omega)]
  rw [hc, e]
theorem rowIs_words {w : World} {g n : Nat} {t : TypeId} {k : IntKind} {ws : List Nat} (h : w.heap[g]? = some (.cells (numsOf k ws) t (0, 0))) (hl : ws.length = n) : w.rowIs g t n (wordRow k ws) :=
  ⟨numsOf k ws, h, by rw [numsOf_size, hl], fun i hi => numsOf_at k ws i (by omega)⟩
theorem row_set {w : World} {g n : Nat} {t : TypeId} {k : IntKind} {ws : List Nat} (h : w.rowIs g t n (wordRow k ws)) (hl : ws.length = n) (i v : Nat) (hi : i < n) :
    (w.setCell ⟨g, i, none⟩ (.int k ((v : Nat) : Int))).rowIs g t n (wordRow k (ws.set i v)) := by
  refine (h.set i _).congr fun j _ => ?_
  unfold wordRow
  rw [gt_set _ _ _ _ (by omega)]
  split <;> rfl
theorem row_setZ {w : World} {g n : Nat} {t : TypeId} {k : IntKind} {ws : List Nat} (h : w.rowIs g t n (wordRow k ws)) (hl : ws.length = n) (i v : Nat) (hi : i < n) {j : Nat} (hj : j = i) {z : Int} (hz : z = (v : Int)) :
    (w.setCell ⟨g, j, none⟩ (.int k z)).rowIs g t n (wordRow k (ws.set i v)) := by
  subst hj hz; exact row_set h hl _ v hi

/-- a slice of bytes that lies below block B, nil let in -/
def Rd (w : World) (B : Nat) (A : Option Addr) (bs : List Nat) : Prop :=
  (∀ j, gt bs j < 256) ∧ (0 < bs.length → ∃ ad : Addr, A = some ad ∧ ad.block < B ∧ ∀ j, j < bs.length → w.cell? (ad.add j) = some (.int .u8 (gt bs j : Nat)))
theorem Rd.keep {w w' : World} {B : Nat} {A : Option Addr} {bs : List Nat} (h : Rd w B A bs) (e : ∀ p : Addr, p.block < B → w'.cell? p = w.cell? p) : Rd w' B A bs := by
  refine ⟨h.1, fun hn => ?_⟩
  obtain ⟨ad, h1, h2, h3⟩ := h.2 hn
  refine ⟨ad, h1, h2, fun j hj => ?_⟩
  rw [e _ (by unfold Addr.add; split <;> exact h2)]
  exact h3 j hj
theorem Rd.grown {w w' : World} {B g : Nat} {A : Option Addr} {bs : List Nat} (h : Rd w B A bs) (hg : w.grownBy w' (some g)) (hB : B ≤ g) (hw : B ≤ w.heap.size) : Rd w' B A bs :=
  h.keep fun p hp => World.cell?_of_block (hg.block p.block (by omega) (by intro e; injection e; omega))
theorem Rd.below {w w' : World} {B : Nat} {A : Option Addr} {bs : List Nat} (h : Rd w B A bs) (hg : Below B w w') : Rd w' B A bs := h.keep fun _ hp => hg.cell hp
theorem Rd.more {w : World} {B B' : Nat} {A : Option Addr} {bs : List Nat} (h : Rd w B A bs) (hB : B ≤ B') : Rd w B' A bs := by
  refine ⟨h.1, fun hn => ?_⟩
  obtain ⟨ad, h1, h2, h3⟩ := h.2 hn
  exact ⟨ad, h1, by omega, h3⟩
theorem Rd.nil (w : World) (B : Nat) (A : Option Addr) : Rd w B A [] := ⟨fun _ => by simp [gt], fun h => absurd h (by simp)⟩

end Go.Proofs.YtkplkfokpniflaaDoor.Sha

namespace Go.Proofs.YtkplkfokpniflaaDoor.Sha
set_option linter.all false
open Go.RowKit

theorem wrapneg (k : Nat) (h : 1 ≤ k) (h' : k ≤ 31) : IntKind.u64.wrap (-(k : Int)) = ((18446744073709551616 - k : Nat) : Int) := by
  rw [IntKind.wrap_u64]; omega
theorem and31 (k : Nat) (h : 1 ≤ k) (h' : k ≤ 31) : bits .and .u64 ((18446744073709551616 - k : Nat) : Int) 31 = ((32 - k : Nat) : Int) := by
  have := u64_and_nat (18446744073709551616 - k) 31 (by omega) (by omega)
  have e : (18446744073709551616 - k) &&& 31 = 32 - k := by
    have := Nat.and_two_pow_sub_one_eq_mod (18446744073709551616 - k) 5
    have e2 : (2 : Nat) ^ 5 - 1 = 31 := rfl
    rw [e2] at this
    rw [this]; omega
  rw [e] at this
  exact this
theorem wrapmul (x k : Nat) : IntKind.u32.wrap ((x : Int) * 2 ^ k) = ((x * 2 ^ k % 4294967296 : Nat) : Int) := by
  rw [IntKind.wrap_u32]; simp
theorem rotr_bits (x k : Nat) (hx : x < 4294967296) (hk : k ≤ 31) : bits .or .u32 ((x : Int) * 2 ^ (32 - k) % 4294967296) ((x : Int) / 2 ^ (32 - (32 - k))) = ((rotr x k : Nat) : Int) := by
  rw [← IntKind.wrap_u32, wrapmul, show 32 - (32 - k) = k by omega]
  have h : ((x : Int) / 2 ^ k) = ((x / 2 ^ k : Nat) : Int) := by simp
  rw [h, u32_or_nat _ _ (Nat.mod_lt _ (by omega)) (Nat.lt_of_le_of_lt (Nat.div_le_self _ _) hx)]
  rfl
theorem xor_bits {a d : Nat} (h : a < 4294967296) (h' : d < 4294967296) : bits .xor .u32 (a : Int) (d : Int) = ((a ^^^ d : Nat) : Int) := u32_xor_nat _ _ h h'

set_option maxHeartbeats 400000 in
theorem rot_any (x k : Nat) (w : World) (hx : x < 4294967296) (hk : 1 ≤ k) (hk' : k ≤ 31) :
    Calls Tryd.prog 89 #[.int .u32 x, .int .i64 (-(k : Int))] w fun e w' => e = .returned (.int .u32 (rotr x k : Nat)) ∧ w = w' := by
  have hw := wrapneg k hk hk'
  have ha := and31 k hk hk'
  have hr := rotr_bits x k hx hk'
  go_enter Tryd.func89, Tryd.ntmps89
  go_wp2
  go_ret
  exact ⟨rfl, rfl⟩

set_option maxHeartbeats 400000 in
theorem right_any (x k : Nat) (w : World) (hx : x < 4294967296) (hk : 1 ≤ k) (hk' : k ≤ 31) :
    Calls Tryd.prog 88 #[.int .u32 x, .int .i64 k] w fun e w' => e = .returned (.int .u32 (rotr x k : Nat)) ∧ w' = w := by
  go_enter Tryd.func88, Tryd.ntmps88
  go_wp2_with fail
  refine (rot_any x k _ hx hk hk').mono ?_
  rintro e' w' ⟨rfl, rfl⟩
  go_wp2
  go_ret
  exact ⟨rfl, rfl⟩
theorem turned_bits {x : Nat} (a b c : Nat) (hx : x < 4294967296) : bits .xor .u32 (bits .xor .u32 ((rotr x a : Nat) : Int) ((rotr x b : Nat) : Int)) ((rotr x c : Nat) : Int) = ((turned x a b c : Nat) : Int) := by
  rw [u32_xor_nat _ _ (rotr_lt _ _ hx) (rotr_lt _ _ hx), u32_xor_nat _ _ (xor_lt (rotr_lt _ _ hx) (rotr_lt _ _ hx)) (rotr_lt _ _ hx)]; rfl
set_option maxHeartbeats 400000 in
theorem turned_any (x a b c : Nat) (w : World) (hx : x < 4294967296) (ha : 1 ≤ a) (ha' : a ≤ 31) (hb : 1 ≤ b) (hb' : b ≤ 31) (hc : 1 ≤ c) (hc' : c ≤ 31) :
    Calls Tryd.prog 87 #[.int .u32 x, .int .i64 a, .int .i64 b, .int .i64 c] w fun e w' => e = .returned (.int .u32 (turned x a b c : Nat)) ∧ w' = w := by
  have hbits := turned_bits a b c hx
  go_enter Tryd.func87, Tryd.ntmps87
  go_wp2_with fail
  refine (right_any x a _ hx ha ha').mono ?_
  rintro e' w' ⟨rfl, rfl⟩
  go_wp2_with fail
  refine (right_any x b _ hx hb hb').mono ?_
  rintro e' w' ⟨rfl, rfl⟩
  go_wp2_with fail
  refine (right_any x c _ hx hc hc').mono ?_
  rintro e' w' ⟨rfl, rfl⟩
  go_wp2
  go_ret
  exact ⟨rfl, rfl⟩

end Go.Proofs.YtkplkfokpniflaaDoor.Sha

namespace Go.Proofs.YtkplkfokpniflaaDoor.Sha
set_option linter.all false
open Go.RowKit

theorem pack_bits {ws : List Nat} (h : Ok 4294967296 64 ws) (i v : Nat) (hv : v < 256) : bits .or .u32 (((gt ws (i / 4) : Nat) : Int) * 256 % 4294967296) (v : Int) = ((packw ws i v : Nat) : Int) := by
  have e : (((gt ws (i / 4) : Nat) : Int) * 256 % 4294967296) = ((gt ws (i / 4) * 256 % 4294967296 : Nat) : Int) := by simp
  rw [e, u32_or_nat _ _ (Nat.mod_lt _ (by omega)) (by omega)]; rfl
theorem sig0_bits {x : Nat} (hx : x < 4294967296) : bits .xor .u32 (bits .xor .u32 ((rotr x 7 : Nat) : Int) ((rotr x 18 : Nat) : Int)) ((x : Int) / 8) = ((sig0 x : Nat) : Int) := by
  have e : ((x : Int) / 8) = ((x / 8 : Nat) : Int) := by simp
  rw [e, u32_xor_nat _ _ (rotr_lt _ _ hx) (rotr_lt _ _ hx), u32_xor_nat _ _ (xor_lt (rotr_lt _ _ hx) (rotr_lt _ _ hx)) (by omega)]; rfl
theorem sig1_bits {x : Nat} (hx : x < 4294967296) : bits .xor .u32 (bits .xor .u32 ((rotr x 17 : Nat) : Int) ((rotr x 19 : Nat) : Int)) ((x : Int) / 1024) = ((sig1 x : Nat) : Int) := by
  have e : ((x : Int) / 1024) = ((x / 1024 : Nat) : Int) := by simp
  rw [e, u32_xor_nat _ _ (rotr_lt _ _ hx) (rotr_lt _ _ hx), u32_xor_nat _ _ (xor_lt (rotr_lt _ _ hx) (rotr_lt _ _ hx)) (by omega)]; rfl
theorem wsub (k m d : Nat) (h : d + m ≤ k) (h' : k ≤ d + m) (h2 : k ≤ 64) : IntKind.i64.wrap ((k : Int) - (m : Int)) = (d : Int) := by
  rw [IntKind.wrap_i64]; omega
theorem right_7 (x : Nat) (w : World) (hx : x < 4294967296) : Calls Tryd.prog 88 #[.int .u32 x, .int .i64 7] w fun e w' => e = .returned (.int .u32 (rotr x 7 : Nat)) ∧ w' = w := right_any x 7 w hx (by omega) (by omega)
theorem right_18 (x : Nat) (w : World) (hx : x < 4294967296) : Calls Tryd.prog 88 #[.int .u32 x, .int .i64 18] w fun e w' => e = .returned (.int .u32 (rotr x 18 : Nat)) ∧ w' = w := right_any x 18 w hx (by omega) (by omega)
theorem right_17 (x : Nat) (w : World) (hx : x < 4294967296) : Calls Tryd.prog 88 #[.int .u32 x, .int .i64 17] w fun e w' => e = .returned (.int .u32 (rotr x 17 : Nat)) ∧ w' = w := right_any x 17 w hx (by omega) (by omega)
theorem right_19 (x : Nat) (w : World) (hx : x < 4294967296) : Calls Tryd.prog 88 #[.int .u32 x, .int .i64 19] w fun e w' => e = .returned (.int .u32 (rotr x 19 : Nat)) ∧ w' = w := right_any x 19 w hx (by omega) (by omega)
theorem zrow (ty : TypeId) (w : World) : (w.alloc (.cells (numsOf .u32 (tab 64 fun _ => 0)) ty)).rowIs w.heap.size ty 64 (wordRow .u32 (tab 64 fun _ => 0)) :=
  rowIs_words (heap_alloc_last w _) (tab_len _ _)

set_option maxHeartbeats 1000000 in
set_option maxRecDepth 100000 in
theorem words_to (g o : Nat) (b out : List Nat) (w : World) (HW : Hid (Unit → wordsOf b = out)) (hO : Ok 256 64 b) (hlt : g < w.heap.size) (hc : ∀ i, i < 64 → w.cell? ⟨g, o + i, none⟩ = some (.int .u8 (gt b i : Nat))) :
    Calls Tryd.prog 86 #[.pointer (some ⟨g, o, none⟩)] w fun e w' => e = .returned (.agg (numsOf .u32 out)) ∧ Below w.heap.size w w' := by
  have HC := Lib.hid hc; have HO := Lib.hid hO; clear hc hO
  go_enter Tryd.func86, Tryd.ntmps86
  go_wp2
  go_loopw [10] (fun i W => ∃ k : Nat, k ≤ 64 ∧ i = .int .i64 k ∧ Hid (W.rowIs (w.heap.size + 1) 96 64 (wordRow .u32 (packTo b k))) ∧ Hid (W.rowIs w.heap.size 96 64 (wordRow .u32 (tab 64 fun _ => 0))) ∧ Hid (Below w.heap.size w W)) (fun i _ => 64 - (intOf i).toNat)
  case atStart =>
    have r1 := zrow 96 w
    have r2 := zrow 96 (w.alloc (.cells (numsOf .u32 (tab 64 fun _ => 0)) 96))
    have e : (w.alloc (.cells (numsOf .u32 (tab 64 fun _ => 0)) 96)).heap.size = w.heap.size + 1 := by simp
    rw [e] at r2
    exact ⟨0, by omega, rfl, Lib.hid r2, Lib.hid (r1.alloc _), Lib.hid (((Below.refl _ _).alloc (Nat.le_refl _) _).alloc (by simp) _)⟩
  case round =>
    obtain ⟨k, hk, rfl, HR1, HZ1, HB1⟩ := hrel
    by_cases hk64 : k < 64
    · have c0 : wr.cell? ⟨g, o + k, none⟩ = some (.int .u8 (gt b k : Nat)) := by rw [HB1.out.cell (by show g < w.heap.size; omega)]; exact HC.out k hk64
      have hv := HO.out.2 k
      have hok := ok_packTo HO.out k hk
      have hs : packTo b (k + 1) = (packTo b k).set (k / 4) (packw (packTo b k) k (gt b k)) := rfl
      generalize packTo b k = ws at *
      have d0 := HR1.out.cell (i := k / 4) (by omega)
      have d1 := HR1.out.frozen (k / 4)
      have hbits := pack_bits hok k (gt b k) hv
      have HS := Lib.hid hs; have HOK := Lib.hid hok; clear hs hok
      unfold wordRow at d0
      go_wp2
      go_region
      go_wp2
      go_roundw
      case rel =>
        exact ⟨k + 1, by omega, by go_num, Lib.hid (by rw [HS.out]; exact row_set HR1.out.drew HOK.out.1 _ _ (by omega)), Lib.hid (HZ1.out.setOther (by show w.heap.size ≠ w.heap.size + 1; omega) _).drew, Lib.hid (HB1.out.setCell (by show w.heap.size ≤ w.heap.size + 1; omega) _).drew⟩
      case measure => simp [intOf]; omega
    · obtain rfl : k = 64 := by omega
      clear hk hk64
      have hok0 := ok_packTo HO.out 64 (Nat.le_refl _)
      have hw0 : Unit → moreTo (packTo b 64) 48 = out := HW.out
      clear HW
      generalize packTo b 64 = p at *
      have HW0 := Lib.hid hw0; have HOK0 := Lib.hid hok0; clear hw0 hok0
      rw [show (((64 : Nat) : Int)) = 64 from rfl]
      go_wp2
      go_loopw [6] (fun i W => ∃ k j : Nat, j ≤ 48 ∧ j + 16 ≤ k ∧ k ≤ j + 16 ∧ i = .int .i64 (k : Nat) ∧ Hid (W.rowIs (w.heap.size + 1) 96 64 (wordRow .u32 (moreTo p j))) ∧ Hid (W.rowIs w.heap.size 96 64 (wordRow .u32 (tab 64 fun _ => 0))) ∧ Hid (Below w.heap.size w W)) (fun i _ => 64 - (intOf i).toNat)
      case atStart => exact ⟨16, 0, by omega, by omega, by omega, rfl, HR1, HZ1, HB1⟩
      case round =>
        obtain ⟨k, j, hj, hjk, hkj, rfl, HR2, HZ2, HB2⟩ := hrel
        by_cases hk48 : k < 64
        · have hok := ok_moreTo HOK0.out j hj
          have hs : moreTo p (j + 1) = (moreTo p j).set (j + 16) (nextw (moreTo p j) j) := rfl
          generalize moreTo p j = ws at *
          obtain ⟨k16, e16, f16, l16⟩ : ∃ d : Nat, d + 16 ≤ k ∧ k ≤ d + 16 ∧ d < 64 := ⟨k - 16, by omega, by omega, by omega⟩
          obtain ⟨k15, e15, f15, l15⟩ : ∃ d : Nat, d + 15 ≤ k ∧ k ≤ d + 15 ∧ d < 64 := ⟨k - 15, by omega, by omega, by omega⟩
          obtain ⟨k7, e7, f7, l7⟩ : ∃ d : Nat, d + 7 ≤ k ∧ k ≤ d + 7 ∧ d < 64 := ⟨k - 7, by omega, by omega, by omega⟩
          obtain ⟨k2, e2, f2, l2⟩ : ∃ d : Nat, d + 2 ≤ k ∧ k ≤ d + 2 ∧ d < 64 := ⟨k - 2, by omega, by omega, by omega⟩
          have d0 := HR2.out.cell (i := k16) (by omega)
          have d1 := HR2.out.cell (i := k15) (by omega)
          have d2 := HR2.out.cell (i := k7) (by omega)
          have d3 := HR2.out.cell (i := k2) (by omega)
          have d4 := HR2.out.cell (i := k) (by omega)
          have d5 := HR2.out.frozen k
          have b0 := sig0_bits (hok.2 k15)
          have b1 := sig1_bits (hok.2 k2)
          have HS := Lib.hid hs; have HOK := Lib.hid hok; clear hs hok
          have x16 : IntKind.i64.wrap ((k : Int) - 16) = (k16 : Int) := wsub k 16 k16 e16 f16 (by omega)
          have x15 : IntKind.i64.wrap ((k : Int) - 15) = (k15 : Int) := wsub k 15 k15 e15 f15 (by omega)
          have x7 : IntKind.i64.wrap ((k : Int) - 7) = (k7 : Int) := wsub k 7 k7 e7 f7 (by omega)
          have x2 : IntKind.i64.wrap ((k : Int) - 2) = (k2 : Int) := wsub k 2 k2 e2 f2 (by omega)
          have y16 : (k16 : Int) < 64 := by omega
          have y15 : (k15 : Int) < 64 := by omega
          have y7 : (k7 : Int) < 64 := by omega
          have y2 : (k2 : Int) < 64 := by omega
          have y0 : (k : Int) < 64 := by omega
          unfold wordRow at d0 d1 d2 d3 d4
          go_wp2
          refine wp_region_still_tail 17 (by kernel_rfl) (by kernel_rfl) ?_
          simp only [List.take_succ_cons, List.take_zero, List.drop_succ_cons, List.drop_zero]
          repeat still_step
          still_call (right_7 _ _ (HOK.out.2 _))
          repeat still_step
          still_call (right_18 _ _ (HOK.out.2 _))
          repeat still_step
          refine wpStill_nil ?_
          change wpList _ _ _ _ _ wr.drew
          replace HR2 := Lib.hid HR2.out.drew
          replace HZ2 := Lib.hid HZ2.out.drew
          replace HB2 := Lib.hid HB2.out.drew
          clear d0 d1 d2 d3 d4 d5
          generalize wr.drew = w1 at *
          have d0 := HR2.out.cell (i := k16) (by omega)
          have d1 := HR2.out.cell (i := k15) (by omega)
          have d2 := HR2.out.cell (i := k7) (by omega)
          have d3 := HR2.out.cell (i := k2) (by omega)
          have d4 := HR2.out.cell (i := k) (by omega)
          have d5 := HR2.out.frozen k
          unfold wordRow at d0 d1 d2 d3 d4
          go_wp2
          refine wp_region_still_tail 17 (by kernel_rfl) (by kernel_rfl) ?_
          simp only [List.take_succ_cons, List.take_zero, List.drop_succ_cons, List.drop_zero]
          repeat still_step
          still_call (right_17 _ _ (HOK.out.2 _))
          repeat still_step
          still_call (right_19 _ _ (HOK.out.2 _))
          repeat still_step
          refine wpStill_nil ?_
          change wpList _ _ _ _ _ w1.drew
          replace HR2 := Lib.hid HR2.out.drew
          replace HZ2 := Lib.hid HZ2.out.drew
          replace HB2 := Lib.hid HB2.out.drew
          clear d0 d1 d2 d3 d4 d5
          generalize w1.drew = w2 at *
          have d0 := HR2.out.cell (i := k16) (by omega)
          have d1 := HR2.out.cell (i := k15) (by omega)
          have d2 := HR2.out.cell (i := k7) (by omega)
          have d3 := HR2.out.cell (i := k2) (by omega)
          have d4 := HR2.out.cell (i := k) (by omega)
          have d5 := HR2.out.frozen k
          unfold wordRow at d0 d1 d2 d3 d4
          go_wp2
          go_region
          go_wp2
          go_roundw
          case rel =>
            refine ⟨k + 1, j + 1, by omega, by omega, by omega, by go_num, Lib.hid ?_, Lib.hid (HZ2.out.setOther (by show w.heap.size ≠ w.heap.size + 1; omega) _).drew, Lib.hid (HB2.out.setCell (by show w.heap.size ≤ w.heap.size + 1; omega) _).drew⟩
            rw [HS.out]
            refine row_setZ HR2.out.drew HOK.out.1 (j + 16) (nextw ws j) (by omega) (by omega) ?_
            have q16 : k16 = j := by omega
            have q15 : k15 = j + 1 := by omega
            have q7 : k7 = j + 9 := by omega
            have q2 : k2 = j + 14 := by omega
            unfold nextw add
            rw [q16, q15, q7, q2]
            omega
          case measure => simp [intOf]; omega
        · obtain rfl : j = 48 := by omega
          have hl : (moreTo p 48).length = 64 := (ok_moreTo HOK0.out 48 (Nat.le_refl _)).1
          rw [HW0.out ()] at HR2 hl
          clear HW0 HOK0
          have hc := heap_words HR2.out hl
          have hz := heap_words HZ2.out (tab_len _ _)
          have hi : (Tryd.prog.info? 96).map (·.size) = some (numsOf .u32 out).size := by rw [numsOf_size, hl]; kernel_rfl
          have hzm : (numsOf .u32 (tab 64 fun _ => 0)).size = (numsOf .u32 out).size := by rw [numsOf_size, numsOf_size, tab_len, hl]
          have HC2 := Lib.hid hc; have HZ := Lib.hid hz; have HZM := Lib.hid hzm; have HI := Lib.hid hi; clear hc hz hl hi hzm
          go_wp2_with (first | (refine wpList_load_row rfl 96 (.tmp 3) rfl (w.heap.size + 1) rfl 96 (numsOf .u32 out) (0, 0) _ HC2.out Tryd.underlying96 rfl HI.out ?_) | (refine wpList_store_row rfl 96 (.tmp 2) (.tmp 81) rfl w.heap.size (numsOf .u32 out) rfl rfl 96 (numsOf .u32 (tab 64 fun _ => 0)) HZ.out HI.out HZM.out (numsOf_one _ _) ?_))
          refine bodyPost_ret (v := .agg (numsOf .u32 out)) (results_cell_row (p := 2) (ty := 96) (by kernel_rfl) _ _ w.heap.size 96 (numsOf .u32 out) (0, 0) _ rfl (setRow_heap _ _ _ _ _ _ HZ.out) Tryd.underlying96 rfl HI.out) rfl ⟨rfl, below_setRow HB2.out (Nat.le_refl _) _⟩

theorem words_any (g o : Nat) (b : List Nat) (w : World) (hO : Ok 256 64 b) (hlt : g < w.heap.size) (hc : ∀ i, i < 64 → w.cell? ⟨g, o + i, none⟩ = some (.int .u8 (gt b i : Nat))) :
    Calls Tryd.prog 86 #[.pointer (some ⟨g, o, none⟩)] w fun e w' => e = .returned (.agg (numsOf .u32 (wordsOf b))) ∧ Below w.heap.size w w' :=
  words_to g o b _ w (Lib.hid fun _ => rfl) hO hlt hc
end Go.Proofs.YtkplkfokpniflaaDoor.Sha

namespace Go.Proofs.YtkplkfokpniflaaDoor.Sha
set_option linter.all false
open Go.RowKit

def hsF (s : Hs) : Nat → Value := fun j => if j < 8 then .int .u32 ((gt s.st j : Nat) : Int) else if j < 72 then .int .u8 ((gt s.buf (j - 8) : Nat) : Int) else .int .u64 ((s.n : Nat) : Int)
def HsAt (w : World) (g : Nat) (s : Hs) : Prop := w.rowIs g 109 73 (hsF s)
section
variable {w w' : World} {g : Nat} {s : Hs}
theorem HsAt.st (h : HsAt w g s) (i : Nat) (hi : i < 8) : w.cell? ⟨g, i, none⟩ = some (.int .u32 (gt s.st i : Nat)) := by
  rw [World.rowIs.cell h (by omega)]; unfold hsF; rw [if_pos hi]
theorem HsAt.buf (h : HsAt w g s) (i : Nat) (hi : i < 64) : w.cell? ⟨g, 8 + i, none⟩ = some (.int .u8 (gt s.buf i : Nat)) := by
  rw [World.rowIs.cell h (by omega)]; unfold hsF; rw [if_neg (by omega), if_pos (by omega), show 8 + i - 8 = i by omega]
theorem HsAt.len (h : HsAt w g s) : w.cell? ⟨g, 72, none⟩ = some (.int .u64 (s.n : Nat)) := by
  rw [World.rowIs.cell h (by omega)]; rfl
theorem HsAt.frozen (h : HsAt w g s) (i : Nat) : w.frozen? ⟨g, i, none⟩ = false := World.rowIs.frozen h i
theorem HsAt.lt (h : HsAt w g s) : g < w.heap.size := World.rowIs.lt h
theorem HsAt.setSt (h : HsAt w g s) (hl : s.st.length = 8) (i v : Nat) (hi : i < 8) : HsAt (w.setCell ⟨g, i, none⟩ (.int .u32 (v : Nat))) g ⟨s.st.set i v, s.buf, s.n⟩ := by
  refine (World.rowIs.set h i _).congr fun j _ => ?_
  unfold hsF
  by_cases e : j = i
  · subst e; rw [if_pos rfl, if_pos hi, gt_set _ _ _ _ (by omega), if_pos rfl]
  · rw [if_neg e]
    by_cases hj : j < 8
    · rw [if_pos hj, if_pos hj, gt_set _ _ _ _ (by omega), if_neg e]
    · rw [if_neg hj, if_neg hj]
theorem HsAt.setLen (h : HsAt w g s) (m : Nat) : HsAt (w.setCell ⟨g, 72, none⟩ (.int .u64 (m : Nat))) g ⟨s.st, s.buf, m⟩ := by
  refine (World.rowIs.set h 72 _).congr fun j hj => ?_
  unfold hsF
  by_cases e : j = 72
  · subst e; rfl
  · rw [if_neg e]
    split
    · rfl
    · rw [if_pos (by omega), if_pos (by omega)]
theorem HsAt.drew (h : HsAt w g s) : HsAt w.drew g s := h
theorem HsAt.drewN (h : HsAt w g s) (k : Nat) : HsAt (w.drewN k) g s := h
theorem HsAt.alloc (h : HsAt w g s) (x : Obj) : HsAt (w.alloc x) g s := World.rowIs.alloc h x
theorem HsAt.far (h : HsAt w g s) {a : Addr} (ha : g ≠ a.block) (v : Value) : HsAt (w.setCell a v) g s := World.rowIs.setOther h ha v
theorem HsAt.of_block (h : HsAt w g s) (e : w'.heap[g]? = w.heap[g]?) : HsAt w' g s := World.rowIs.of_block h e
theorem HsAt.grown {row : Option Nat} (h : HsAt w g s) (hg : w.grownBy w' row) (hne : some g ≠ row) : HsAt w' g s := h.of_block (hg.block g h.lt hne)
theorem HsAt.below {B : Nat} (h : HsAt w g s) (hg : Below B w w') (hB : g < B) : HsAt w' g s := h.of_block (hg.block g hB)
end

end Go.Proofs.YtkplkfokpniflaaDoor.Sha

namespace Go.Proofs.YtkplkfokpniflaaDoor.Sha
set_option linter.all false
open Go.RowKit

theorem wp_scope_round {P : Program} {a : Act} {w : World} {Q : Exit → Act → World → Prop} {c rest : Code} (l : Nat) (J : Act → World → Prop) (μ : Act → World → Nat) (hf : findLabel c l = some (Code.seq .skip rest))
    (pass : ∀ a w, J a w → rest.wp P (Exit.jump l (fun a' w' => J a' w' ∧ μ a' w' < μ a w) Q) a w)
    (first : (∀ a w, J a w → rest.wp P (Exit.jump l J Q) a w) → c.wp P (Exit.jump l J Q) a w) : (Code.scope c).wp P Q a w :=
  wp_scope_jumps l J μ hf (first fun a w h => Code.wp_mono (fun e a' w' h' => by
    cases e <;> first | exact h' | exact ⟨h'.1, h'.2.1⟩) (pass a w h)) fun a w h => wp_seq (wp_skip (pass a w h))

theorem u32_not (x : Nat) (hx : x < 4294967296) : bits .xor .u32 (4294967295 : Int) (x : Int) = (notw x : Nat) := by
  have h : (4294967295 : Int) = ((4294967295 : Nat) : Int) := rfl
  rw [h, u32_xor_nat _ _ (by omega) hx]
  unfold notw
  have e : 4294967295 ^^^ x = 4294967295 - x := by
    apply Nat.eq_of_testBit_eq
    intro i
    have := Nat.testBit_two_pow_sub_succ (n := 32) (x := x) hx i
    rw [Nat.testBit_xor]
    have h2 : (4294967295 : Nat).testBit i = decide (i < 32) := by
      have := Nat.testBit_two_pow_sub_one 32 i
      simpa using this
    rw [h2]
    have h3 : 4294967295 - x = 2 ^ 32 - (x + 1) := by omega
    rw [h3, this]
    by_cases hi : i < 32
    · simp [hi]
    · have : x.testBit i = false := Nat.testBit_lt_two_pow (Nat.lt_of_lt_of_le hx (by
        have h64 : (4294967296 : Nat) = 2 ^ 32 := rfl
        rw [h64]
        exact Nat.pow_le_pow_right (by omega) (by omega)))
      simp [hi, this]
  rw [e]
theorem ch_bits {e f g : Nat} (he : e < 4294967296) (hf : f < 4294967296) (hg : g < 4294967296) : bits .xor .u32 (bits .and .u32 (e : Int) (f : Int)) (bits .and .u32 ((notw e : Nat) : Int) (g : Int)) = ((ch e f g : Nat) : Int) := by
  rw [u32_and_nat _ _ he hf, u32_and_nat _ _ (notw_lt _) hg, u32_xor_nat _ _ (and_lt hf) (and_lt hg)]; rfl
theorem maj_bits {a b c : Nat} (ha : a < 4294967296) (hb : b < 4294967296) (hc : c < 4294967296) : bits .xor .u32 (bits .xor .u32 (bits .and .u32 (a : Int) (b : Int)) (bits .and .u32 (a : Int) (c : Int))) (bits .and .u32 (b : Int) (c : Int)) = ((maj a b c : Nat) : Int) := by
  rw [u32_and_nat _ _ ha hb, u32_and_nat _ _ ha hc, u32_and_nat _ _ hb hc, u32_xor_nat _ _ (and_lt hb) (and_lt hc), u32_xor_nat _ _ (xor_lt (and_lt hb) (and_lt hc)) (and_lt hc)]; rfl
theorem turned_e (x : Nat) (w : World) (hx : x < 4294967296) : Calls Tryd.prog 87 #[.int .u32 x, .int .i64 6, .int .i64 11, .int .i64 25] w fun e w' => e = .returned (.int .u32 (turned x 6 11 25 : Nat)) ∧ w' = w :=
  turned_any x 6 11 25 w hx (by omega) (by omega) (by omega) (by omega) (by omega) (by omega)
theorem turned_a (x : Nat) (w : World) (hx : x < 4294967296) : Calls Tryd.prog 87 #[.int .u32 x, .int .i64 2, .int .i64 13, .int .i64 22] w fun e w' => e = .returned (.int .u32 (turned x 2 13 22 : Nat)) ∧ w' = w :=
  turned_any x 2 13 22 w hx (by omega) (by omega) (by omega) (by omega) (by omega) (by omega)
theorem round0 (v : List Nat) (c x : Nat) : gt (round v c x) 0 = add (tOf v c x) (uOf v) := by unfold round; exact gt_cons_zero _ _
theorem round1 (v : List Nat) (c x : Nat) : gt (round v c x) 1 = gt v 0 := by unfold round; exact (gt_cons_succ _ _ 0).trans (gt_cons_zero _ _)
theorem round2 (v : List Nat) (c x : Nat) : gt (round v c x) 2 = gt v 1 := by unfold round; exact (gt_cons_succ _ _ 1).trans ((gt_cons_succ _ _ 0).trans (gt_cons_zero _ _))
theorem round3 (v : List Nat) (c x : Nat) : gt (round v c x) 3 = gt v 2 := by unfold round; exact (gt_cons_succ _ _ 2).trans ((gt_cons_succ _ _ 1).trans ((gt_cons_succ _ _ 0).trans (gt_cons_zero _ _)))
theorem round4 (v : List Nat) (c x : Nat) : gt (round v c x) 4 = add (gt v 3) (tOf v c x) := by unfold round; exact (gt_cons_succ _ _ 3).trans ((gt_cons_succ _ _ 2).trans ((gt_cons_succ _ _ 1).trans ((gt_cons_succ _ _ 0).trans (gt_cons_zero _ _))))
theorem round5 (v : List Nat) (c x : Nat) : gt (round v c x) 5 = gt v 4 := by unfold round; exact (gt_cons_succ _ _ 4).trans ((gt_cons_succ _ _ 3).trans ((gt_cons_succ _ _ 2).trans ((gt_cons_succ _ _ 1).trans ((gt_cons_succ _ _ 0).trans (gt_cons_zero _ _)))))
theorem round6 (v : List Nat) (c x : Nat) : gt (round v c x) 6 = gt v 5 := by unfold round; exact (gt_cons_succ _ _ 5).trans ((gt_cons_succ _ _ 4).trans ((gt_cons_succ _ _ 3).trans ((gt_cons_succ _ _ 2).trans ((gt_cons_succ _ _ 1).trans ((gt_cons_succ _ _ 0).trans (gt_cons_zero _ _))))))
theorem round7 (v : List Nat) (c x : Nat) : gt (round v c x) 7 = gt v 6 := by unfold round; exact (gt_cons_succ _ _ 6).trans ((gt_cons_succ _ _ 5).trans ((gt_cons_succ _ _ 4).trans ((gt_cons_succ _ _ 3).trans ((gt_cons_succ _ _ 2).trans ((gt_cons_succ _ _ 1).trans ((gt_cons_succ _ _ 0).trans (gt_cons_zero _ _)))))))
theorem add_int (a b : Nat) : ((a : Int) + (b : Int)) % 4294967296 = ((add a b : Nat) : Int) := by unfold add; omega
theorem add_wrap (a b : Nat) : IntKind.u32.wrap ((a : Int) + (b : Int)) = ((add a b : Nat) : Int) := by rw [IntKind.wrap_u32]; exact add_int a b
theorem eight_round (v : List Nat) (c x k : Nat) (hk : k < 8) : (#[Value.int .u32 ((add (tOf v c x) (uOf v) : Nat) : Int), .int .u32 ((gt v 0 : Nat) : Int), .int .u32 ((gt v 1 : Nat) : Int), .int .u32 ((gt v 2 : Nat) : Int), .int .u32 ((add (gt v 3) (tOf v c x) : Nat) : Int), .int .u32 ((gt v 4 : Nat) : Int), .int .u32 ((gt v 5 : Nat) : Int), .int .u32 ((gt v 6 : Nat) : Int)] : Array Value)[k]? = some (.int .u32 ((gt (round v c x) k : Nat) : Int)) := by
  match k, hk with
  | 0, _ => rw [round0]; simp
  | 1, _ => rw [round1]; simp
  | 2, _ => rw [round2]; simp
  | 3, _ => rw [round3]; simp
  | 4, _ => rw [round4]; simp
  | 5, _ => rw [round5]; simp
  | 6, _ => rw [round6]; simp
  | 7, _ => rw [round7]; simp
  | n + 8, h => omega

set_option maxHeartbeats 800000 in
set_option maxRecDepth 100000 in
theorem change_to (g : Nat) (st buf out ws v64 : List Nat) (n : Nat) (w : World) (hS : HsAt w g ⟨st, buf, n⟩) (hO : Ok 4294967296 8 st) (hB : Ok 256 64 buf) (hT : Tables w) (hg : 3 ≤ g)
    (HW : Hid (Unit → wordsOf buf = ws)) (HV : Hid (Unit → roundsTo ws st 64 = v64)) (HO : Hid (Unit → sumTo st v64 8 = out)) :
    Calls Tryd.prog 81 #[.pointer (some ⟨g, 0, none⟩), .pointer (some ⟨g, 8, none⟩)] w fun e w' => e = .returned (.tuple #[]) ∧ HsAt w' g ⟨out, buf, n⟩ ∧ w.grownBy w' (some g) := by
  have hlt := hS.lt
  have hws : Ok 4294967296 64 ws := by rw [← HW.out ()]; exact ok_wordsOf hB
  have HS := Lib.hid hS; have HOS := Lib.hid hO; have HOB := Lib.hid hB; have HT := Lib.hid hT; have HOW := Lib.hid hws; clear hS hO hB hT hws
  go_enter Tryd.func81, Tryd.ntmps81
  go_wp2
  obtain ⟨J, HJ⟩ : ∃ J : Act → World → Prop, Hid (∀ a' w', J a' w' ↔ ∃ (gw k : Nat) (v : List Nat) (x0 x1 x2 x3 x4 x5 x6 x7 x8 : Int) (u14 u15 u18 u19 u20 u21 u22 u23 u24 u25 u26 u27 u28 u29 u30 u31 u32 u33 u34 u35 u36 u37 u38 u39 u40 u41 u42 u43 u44 u45 u46 u47 u48 u49 u50 u51 u52 u53 u54 u55 u56 u57 u58 u59 u60 u61 u62 u63 u64 u65 u66 u67 u68 u69 u70 u71 u72 u73 u74 u75 u76 u77 u78 u79 u80 u81 u82 u83 u84 u85 u86 u87 u88 u89 u90 u91 u92 u93 u94 u95 u96 u97 u98 u99 u100 u101 u102 : Value), a' = { tmps := #[.pointer (some ⟨g, 0, none⟩), .pointer (some ⟨g, 8, none⟩), undef, undef, .pointer (some ⟨gw, 0, none⟩), .int .u32 x0, .int .u32 x1, .int .u32 x2, .int .u32 x3, .int .u32 x4, .int .u32 x5, .int .u32 x6, .int .u32 x7, .int .i64 x8, u14, u15, undef, undef, u18, u19, u20, u21, u22, u23, u24, u25, u26, u27, u28, u29, u30, u31, u32, u33, u34, u35, u36, u37, u38, u39, u40, u41, u42, u43, u44, u45, u46, u47, u48, u49, u50, u51, u52, u53, u54, u55, u56, u57, u58, u59, u60, u61, u62, u63, u64, u65, u66, u67, u68, u69, u70, u71, u72, u73, u74, u75, u76, u77, u78, u79, u80, u81, u82, u83, u84, u85, u86, u87, u88, u89, u90, u91, u92, u93, u94, u95, u96, u97, u98, u99, u100, u101, u102, undef, undef, undef, undef, undef, undef, undef, undef, undef, undef, undef, undef, undef, undef, undef, undef, undef, undef, undef, undef, undef, undef, undef], defers := [] } ∧ k < 64 ∧ Hid (Unit → roundsTo ws st k = v) ∧ x0 = ((gt v 0 : Nat) : Int) ∧ x1 = ((gt v 1 : Nat) : Int) ∧ x2 = ((gt v 2 : Nat) : Int) ∧ x3 = ((gt v 3 : Nat) : Int) ∧ x4 = ((gt v 4 : Nat) : Int) ∧ x5 = ((gt v 5 : Nat) : Int) ∧ x6 = ((gt v 6 : Nat) : Int) ∧ x7 = ((gt v 7 : Nat) : Int) ∧ x8 = ((k : Nat) : Int) ∧ w.heap.size ≤ gw ∧ Hid (HsAt w' g ⟨st, buf, n⟩) ∧ Hid (w'.rowIs gw 96 64 (wordRow .u32 ws)) ∧ Hid (w.grownBy w' (some g)) ∧ Hid (Tables w')) := ⟨_, Lib.hid fun _ _ => Iff.rfl⟩
  refine wp_scope_round 0 J (fun a' _ => 64 - (intOf (a'.tmps.getD 13 undef)).toNat) rfl ?pass ?first
  case first =>
    intro hpass
    go_wp2_with fail
    refine (words_to g 8 buf ws _ HW HOB.out hlt HS.out.buf).mono ?_
    rintro e w1 ⟨rfl, hB1⟩
    have HB1 := Lib.hid hB1; clear hB1
    have hl : ws.length = 64 := HOW.out.1
    have hi : (Tryd.prog.info? 96).map (·.size) = some (numsOf .u32 ws).size := by rw [numsOf_size, hl]; kernel_rfl
    have hzm : (numsOf .u32 (tab 64 fun _ => 0)).size = (numsOf .u32 ws).size := by rw [numsOf_size, numsOf_size, tab_len, hl]
    have HZM := Lib.hid hzm; have HI := Lib.hid hi; clear hi hzm
    go_wp2_with (refine wpList_store_row rfl 96 (.tmp 4) (.tmp 19) rfl w1.heap.size (numsOf .u32 ws) rfl rfl 96 (numsOf .u32 (tab 64 fun _ => 0)) (heap_alloc_last w1 _) HI.out HZM.out (numsOf_one _ _) ?_)
    rw [World.setRow_alloc_new]
    have HS2 := Lib.hid ((HS.out.below HB1.out hlt).alloc (.cells (numsOf .u32 ws) 96))
    have HR2 := Lib.hid (rowIs_words (heap_alloc_last w1 (.cells (numsOf .u32 ws) 96)) hl)
    have HG2 := Lib.hid (only_alloc (only_of_below HB1.out (some g)) (.cells (numsOf .u32 ws) 96))
    have HT2 := Lib.hid ((HT.out.below HB1.out (by omega)).alloc (.cells (numsOf .u32 ws) 96))
    have hgw : w.heap.size ≤ w1.heap.size := HB1.out.size
    generalize w1.alloc (.cells (numsOf .u32 ws) 96) = w2 at *
    generalize w1.heap.size = gw at *
    have c0 := HS2.out.st 0 (by omega)
    have c1 := HS2.out.st 1 (by omega)
    have c2 := HS2.out.st 2 (by omega)
    have c3 := HS2.out.st 3 (by omega)
    have c4 := HS2.out.st 4 (by omega)
    have c5 := HS2.out.st 5 (by omega)
    have c6 := HS2.out.st 6 (by omega)
    have c7 := HS2.out.st 7 (by omega)
    dsimp only at c0 c1 c2 c3 c4 c5 c6 c7
    go_wp2
    refine wp_region_still_tail 39 (by kernel_rfl) (by kernel_rfl) ?_
    simp only [List.take_succ_cons, List.take_zero, List.drop_succ_cons, List.drop_zero]
    repeat still_step
    refine wpStill_nil ?_
    change wpList _ _ _ _ _ w2.drew
    replace HS2 := Lib.hid HS2.out.drew
    replace HR2 := Lib.hid HR2.out.drew
    replace HG2 := Lib.hid (only_drew HG2.out)
    replace HT2 := Lib.hid HT2.out.drew
    clear c0 c1 c2 c3 c4 c5 c6 c7
    generalize w2.drew = w3 at *
    go_wp2
    go_step3
    rename_i hgo
    refine hgo _ _ (hpass _ _ ?_)
    refine (HJ.out _ _).2 ⟨gw, 0, st, _, _, _, _, _, _, _, _, _, _, _, _, _, _, _, _, _, _, _, _, _, _, _, _, _, _, _, _, _, _, _, _, _, _, _, _, _, _, _, _, _, _, _, _, _, _, _, _, _, _, _, _, _, _, _, _, _, _, _, _, _, _, _, _, _, _, _, _, _, _, _, _, _, _, _, _, _, _, _, _, _, _, _, _, _, _, _, _, _, _, _, _, _, _, _, _, rfl, by omega, Lib.hid fun _ => rfl, rfl, rfl, rfl, rfl, rfl, rfl, rfl, rfl, rfl, hgw, HS2, HR2, HG2, HT2⟩
  case pass =>
    intro a' W hJ
    replace hJ := (HJ.out _ _).1 hJ
    obtain ⟨gw, k, v, hJ⟩ := hJ
    obtain ⟨x0, x1, x2, x3, x4, x5, x6, x7, x8, hJ⟩ := hJ
    iterate 87 (obtain ⟨_, hJ⟩ := hJ)
    obtain ⟨hfr, hk, HVk, hx0, hx1, hx2, hx3, hx4, hx5, hx6, hx7, hx8, hgw, HS1, HR1, HG1, HT1⟩ := hJ
    subst hfr hx0 hx1 hx2 hx3 hx4 hx5 hx6 hx7 hx8
    have hov : Ok 4294967296 8 v := by rw [← HVk.out ()]; exact ok_roundsTo HOS.out k
    have t0 := HT1.out.rounds.cell k hk
    have t1 := HR1.out.cell (i := k) hk
    unfold wordRow at t1
    have yk : (k : Int) < 64 := by omega
    have n0 : bits .xor .u32 IntKind.u32.max ((gt v 4 : Nat) : Int) = (notw (gt v 4) : Nat) := u32_not (gt v 4) (hov.2 4)
    have n1 := u32_not (gt v 4) (hov.2 4)
    have n2 := ch_bits (hov.2 4) (hov.2 5) (hov.2 6)
    have n3 := maj_bits (hov.2 0) (hov.2 1) (hov.2 2)
    have HOV := Lib.hid hov; clear hov
    have a1 := add_wrap (gt v 7) (turned (gt v 4) 6 11 25)
    have a2 := add_wrap (add (gt v 7) (turned (gt v 4) 6 11 25)) (ch (gt v 4) (gt v 5) (gt v 6))
    have a3 := add_wrap (add (add (gt v 7) (turned (gt v 4) 6 11 25)) (ch (gt v 4) (gt v 5) (gt v 6))) (gt consT k)
    have a4 : IntKind.u32.wrap (((add (add (add (gt v 7) (turned (gt v 4) 6 11 25)) (ch (gt v 4) (gt v 5) (gt v 6))) (gt consT k) : Nat) : Int) + ((gt ws k : Nat) : Int)) = ((tOf v (gt consT k) (gt ws k) : Nat) : Int) := by
      unfold tOf; exact add_wrap _ _
    have b1 : (((turned (gt v 0) 2 13 22 : Nat) : Int) + ((maj (gt v 0) (gt v 1) (gt v 2) : Nat) : Int)) % 4294967296 = ((uOf v : Nat) : Int) := by unfold uOf; exact add_int _ _
    have b2 := add_int (gt v 3) (tOf v (gt consT k) (gt ws k))
    have b3 := add_int (tOf v (gt consT k) (gt ws k)) (uOf v)
    go_wp2
    refine wp_region_still_tail 21 (by kernel_rfl) (by kernel_rfl) ?_
    simp only [List.take_succ_cons, List.take_zero, List.drop_succ_cons, List.drop_zero]
    repeat still_step
    still_call (turned_e _ _ (HOV.out.2 _))
    repeat still_step
    refine wpStill_nil ?_
    change wpList _ _ _ _ _ W.drew
    replace HS1 := Lib.hid HS1.out.drew
    replace HR1 := Lib.hid HR1.out.drew
    replace HG1 := Lib.hid (only_drew HG1.out)
    replace HT1 := Lib.hid HT1.out.drew
    clear t0 t1
    generalize W.drew = W1 at *
    go_wp2_with fail
    refine (turned_a _ _ (HOV.out.2 _)).mono ?_
    rintro e' w' ⟨rfl, rfl⟩
    by_cases hk1 : k + 1 < 64
    · go_wp2
      go_step3
      generalize hV : round v (gt consT k) (gt ws k) = V
      refine ⟨rfl, (HJ.out _ _).2 ⟨gw, k + 1, V, _, _, _, _, _, _, _, _, _, _, _, _, _, _, _, _, _, _, _, _, _, _, _, _, _, _, _, _, _, _, _, _, _, _, _, _, _, _, _, _, _, _, _, _, _, _, _, _, _, _, _, _, _, _, _, _, _, _, _, _, _, _, _, _, _, _, _, _, _, _, _, _, _, _, _, _, _, _, _, _, _, _, _, _, _, _, _, _, _, _, _, _, _, _, _, _, rfl, hk1, Lib.hid fun _ => ?_, ?_, ?_, ?_, ?_, ?_, ?_, ?_, ?_, ?_, hgw, HS1, HR1, HG1, HT1⟩, ?_⟩
      · show round (roundsTo ws st k) (gt consT k) (gt ws k) = _
        rw [HVk.out (), hV]
      · rw [← hV, round0, add_int]
      · rw [← hV, round1]
      · rw [← hV, round2]
      · rw [← hV, round3]
      · rw [← hV, round4, add_int]
      · rw [← hV, round5]
      · rw [← hV, round6]
      · rw [← hV, round7]
      · omega
      · simp [intOf]; omega
    · obtain rfl : k = 63 := by omega
      go_wp2
      have hv : round v (gt consT 63) (gt ws 63) = v64 := by
        have e : round (roundsTo ws st 63) (gt consT 63) (gt ws 63) = v64 := HV.out ()
        rw [HVk.out ()] at e
        exact e
      have hix : ∀ k : Nat, k < 8 → ∀ W, (Instr.index 92 (.agg #[Value.int .u32 ((add (tOf v (gt consT 63) (gt ws 63)) (uOf v) : Nat) : Int), .int .u32 ((gt v 0 : Nat) : Int), .int .u32 ((gt v 1 : Nat) : Int), .int .u32 ((gt v 2 : Nat) : Int), .int .u32 ((add (gt v 3) (tOf v (gt consT 63) (gt ws 63)) : Nat) : Int), .int .u32 ((gt v 4 : Nat) : Int), .int .u32 ((gt v 5 : Nat) : Int), .int .u32 ((gt v 6 : Nat) : Int)]) (.int .i64 (k : Int))).run Tryd.prog W = .ok (.int .u32 ((gt v64 k : Nat) : Int)) W :=
        fun k hk W => run_index_one (P := Tryd.prog) 92 91 8 _ _ .i64 k _ Tryd.underlying92 Tryd.underlying91 rfl (by kernel_rfl) hk (by rw [eight_round v _ _ k hk, hv]) W
      have HIX := Lib.hid hix; clear hix hv n0 n1 n2 n3 yk hk hk1 a1 a2 a3 a4 b1 b2 b3
      generalize gt consT 63 = c63 at *
      generalize gt ws 63 = w63 at *
      generalize add (tOf v c63 w63) (uOf v) = y0 at *
      generalize add (gt v 3) (tOf v c63 w63) = y4 at *
      go_loopw [112] (fun i W => ∃ k : Nat, k ≤ 8 ∧ i = .int .i64 k ∧ Hid (HsAt W g ⟨sumTo st v64 k, buf, n⟩) ∧ Hid (w.grownBy W (some g))) (fun i _ => 8 - (intOf i).toNat)
      case atStart => exact ⟨0, by omega, rfl, Lib.hid (by rw [sumTo_zero HOS.out]; exact HS1.out), HG1⟩
      case round =>
        obtain ⟨k, hk, rfl, HS4, HG4⟩ := hrel
        by_cases hk8 : k < 8
        · have c0 := HS4.out.st k hk8
          dsimp only at c0
          rw [gt_sumTo hk8] at c0
          have f0 := HS4.out.frozen k
          have hix := HIX.out k hk8
          have hadd := add_int (gt st k) (gt v64 k)
          have y8 : (k : Int) < 8 := by omega
          go_wp2
          go_region
          go_wp2
          go_roundw
          case rel =>
            refine ⟨k + 1, by omega, by go_num, Lib.hid ?_, Lib.hid (only_drew (only_set HG4.out (.inl rfl) _))⟩
            have := HS4.out.setSt (ok_sumTo HOS.out k).1 k (add (gt st k) (gt v64 k)) hk8
            dsimp only at this
            rw [sumTo_succ hk8] at this
            exact this.drew
          case measure => simp [intOf]; omega
        · obtain rfl : k = 8 := by omega
          go_wp2
          simp only [Exit.jump]
          go_end0
          exact ⟨rfl, by rw [← HO.out ()]; exact HS4.out, HG4.out⟩
theorem change_any (g : Nat) (s : Hs) (w : World) (hS : HsAt w g s) (hG : Good s) (hT : Tables w) (hg : 3 ≤ g) :
    Calls Tryd.prog 81 #[.pointer (some ⟨g, 0, none⟩), .pointer (some ⟨g, 8, none⟩)] w fun e w' => e = .returned (.tuple #[]) ∧ HsAt w' g ⟨change s.st s.buf, s.buf, s.n⟩ ∧ w.grownBy w' (some g) :=
  change_to g s.st s.buf _ _ _ s.n w hS hG.st hG.buf hT hg (Lib.hid fun _ => rfl) (Lib.hid fun _ => rfl) (Lib.hid fun _ => rfl)

end Go.Proofs.YtkplkfokpniflaaDoor.Sha

namespace Go.Proofs.YtkplkfokpniflaaDoor.Sha
set_option linter.all false
open Go.RowKit

theorem add_add (a : Addr) (i j : Nat) : (a.add i).add j = a.add (i + j) := by
  unfold Addr.add
  by_cases hi : i = 0
  · subst hi; simp
  · by_cases hj : j = 0
    · subst hj; simp [hi]
    · simp [hi, hj, Nat.add_assoc]
theorem add_block (a : Addr) (i : Nat) : (a.add i).block = a.block := by unfold Addr.add; split <;> rfl
/-- a slice of bytes that lies in another block than g, nil let in -/
def Rn (w : World) (g : Nat) (A : Option Addr) (bs : List Nat) : Prop :=
  (∀ j, gt bs j < 256) ∧ (0 < bs.length → ∃ ad : Addr, A = some ad ∧ ad.block ≠ g ∧ ad.block < w.heap.size ∧ ∀ j, j < bs.length → w.cell? (ad.add j) = some (.int .u8 (gt bs j : Nat)))
theorem Rn.grown {w w' : World} {g : Nat} {A : Option Addr} {bs : List Nat} (h : Rn w g A bs) (hg : w.grownBy w' (some g)) : Rn w' g A bs := by
  refine ⟨h.1, fun hn => ?_⟩
  obtain ⟨ad, h1, h2, h3, h4⟩ := h.2 hn
  refine ⟨ad, h1, h2, Nat.lt_of_lt_of_le h3 hg.size, fun j hj => ?_⟩
  rw [World.cell?_of_block (w := w) (w' := w') (hg.block _ (by rw [add_block]; exact h3) (by intro e; injection e with e; rw [add_block] at e; exact h2 e))]
  exact h4 j hj
theorem Rd.apart {w : World} {B g : Nat} {A : Option Addr} {bs : List Nat} (h : Rd w B A bs) (hB : B ≤ g) (hw : B ≤ w.heap.size) : Rn w g A bs := by
  refine ⟨h.1, fun hn => ?_⟩
  obtain ⟨ad, h1, h2, h3⟩ := h.2 hn
  exact ⟨ad, h1, by omega, by omega, h3⟩
theorem Rn.drop {w : World} {g : Nat} {ad : Addr} {bs : List Nat} (h : Rn w g (some ad) bs) (k : Nat) {A : Option Addr} (hA : k < bs.length → A = some (ad.add k)) : Rn w g A (bs.drop k) := by
  have hd : ∀ j, gt (bs.drop k) j = gt bs (k + j) := fun j => by
    unfold gt; rw [List.getD_eq_getElem?_getD, List.getD_eq_getElem?_getD, List.getElem?_drop]
  refine ⟨fun j => by rw [hd]; exact h.1 _, fun hn => ?_⟩
  rw [List.length_drop] at hn
  obtain ⟨ad', h1, h2, h3, h4⟩ := h.2 (by omega)
  injection h1 with h1
  subst h1
  refine ⟨_, hA (by omega), by rw [add_block]; exact h2, by rw [add_block]; exact h3, fun j hj => ?_⟩
  rw [List.length_drop] at hj
  rw [add_add, h4 _ (by omega), hd]
/-- the cells of a hash, as a list -/
def hcells (s : Hs) : List Value := (List.range 73).map (hsF s)
theorem hcells_at (s : Hs) (i : Nat) (h : i < 73) : (hcells s)[i]? = some (hsF s i) := by
  unfold hcells; rw [List.getElem?_map, List.getElem?_range h]; rfl
theorem hcells_len (s : Hs) : (hcells s).length = 73 := by simp [hcells]
theorem HsAt.heap {w : World} {g : Nat} {s : Hs} (h : HsAt w g s) : w.heap[g]? = some (.cells (hcells s).toArray 109 (0, 0)) := by
  obtain ⟨c, hc, hs, hi⟩ := h
  have e : c = (hcells s).toArray := by
    apply Array.ext_getElem?
    intro i
    by_cases h : i < 73
    · rw [hi i h, List.getElem?_toArray, hcells_at s i h]
    · rw [Array.getElem?_eq_none (by omega), List.getElem?_toArray, List.getElem?_eq_none (by rw [hcells_len]; omega)]
  rw [hc, e]
theorem HsAt.of_heap {w : World} {g : Nat} {s : Hs} (h : w.heap[g]? = some (.cells (hcells s).toArray 109 (0, 0))) : HsAt w g s :=
  ⟨_, h, by simp [hcells_len], fun i hi => by rw [List.getElem?_toArray]; exact hcells_at s i hi⟩
def bcells (bs : List Nat) : List Value := bs.map fun x => Value.int .u8 ((x : Nat) : Int)
theorem bcells_len (bs : List Nat) : (bcells bs).length = bs.length := by simp [bcells]
theorem bcells_one (bs : List Nat) : ∀ u ∈ bcells bs, u.oneCell' = true := by
  intro u hu
  obtain ⟨x, _, rfl⟩ := List.mem_map.1 hu
  rfl
theorem bcells_at (bs : List Nat) (i : Nat) (h : i < bs.length) : (bcells bs)[i]? = some (.int .u8 ((gt bs i : Nat) : Int)) := by
  simp [bcells, gt, List.getD_eq_getElem?_getD, h]
theorem gt_take (l : List Nat) (k i : Nat) (h : i < k) : gt (l.take k) i = gt l i := by
  unfold gt; rw [List.getD_eq_getElem?_getD, List.getD_eq_getElem?_getD, List.getElem?_take_of_lt h]
/-- the copy's row -/
theorem splice_cells (s : Hs) (o : Nat) (l : List Nat) (h : o + l.length ≤ 64) :
    (hcells s).take (8 + o) ++ (bcells l ++ (hcells s).drop (8 + o + (bcells l).length)) = hcells ⟨s.st, over s.buf o l, s.n⟩ := by
  apply List.ext_getElem?
  intro i
  have hl := hcells_len s
  have hb := bcells_len l
  have hmin : min (8 + o) 73 = 8 + o := by omega
  by_cases hi : i < 73
  · rw [hcells_at _ i hi, List.getElem?_append, List.getElem?_append]
    simp only [List.length_take, hl, hb, hmin]
    by_cases h1 : i < 8 + o
    · rw [if_pos h1, List.getElem?_take_of_lt h1, hcells_at s i hi]
      by_cases h8 : i < 8
      · simp only [hsF, if_pos h8]
      · simp only [hsF, if_neg h8, if_pos (show i < 72 by omega)]
        unfold over
        rw [gt_tab _ _ _ (by omega), if_neg (by omega)]
    · rw [if_neg h1]
      have h8 : ¬ i < 8 := by omega
      by_cases h2 : i < 8 + o + l.length
      · rw [if_pos (by omega), bcells_at _ _ (by omega)]
        simp only [hsF, if_neg h8, if_pos (show i < 72 by omega)]
        unfold over
        rw [gt_tab _ _ _ (by omega), if_pos (by omega)]
        rw [show i - (8 + o) = i - 8 - o by omega]
      · rw [if_neg (by omega), List.getElem?_drop]
        have e : 8 + o + l.length + (i - (8 + o) - l.length) = i := by omega
        rw [e, hcells_at s i hi]
        by_cases h3 : i < 72
        · simp only [hsF, if_neg h8, if_pos h3]
          unfold over
          rw [gt_tab _ _ _ (by omega), if_neg (by omega)]
        · simp only [hsF, if_neg h8, if_neg h3]
  · rw [List.getElem?_eq_none (by simp [hl, hb]; omega), List.getElem?_eq_none (by rw [hcells_len]; omega)]

theorem run_copy_hs (g a0 r m c k : Nat) (ad : Addr) (w : World) (s1 : Hs) (hS : HsAt w g s1) (l : List Nat) (hl : l.length = m) (hk : k = Nat.min m r) (hc : ∀ j, j < l.length → w.cell? (ad.add j) = some (.int .u8 (gt l j : Nat))) (hfit : a0 + r ≤ 64) :
    ∃ w', (Builtin.copy_ #[22, 22] 3 #[.slice (some ⟨g, 8 + a0, none⟩) r r, .slice (some ad) m c]).run Tryd.prog w = .ok (.int .i64 ((k : Nat) : Int)) w' ∧ HsAt w' g ⟨s1.st, over s1.buf a0 (l.take k), s1.n⟩ ∧ w.grownBy w' (some g) := by
  have hkm : k ≤ m := by rw [hk]; exact Nat.min_le_left _ _
  have hkr : k ≤ r := by rw [hk]; exact Nat.min_le_right _ _
  have hlen : (bcells (l.take k)).length = k := by rw [bcells_len, List.length_take]; omega
  have hrun := run_copy_row (P := Tryd.prog) w 22 22 3 5 g (8 + a0) r r ad m c _ 109 (bcells (l.take k)) Tryd.underlying22 (by kernel_rfl) hS.heap (by rw [hlen]; exact hk) (fun j v hv => by
    have hj : j < k := by
      rcases Nat.lt_or_ge j k with h | h
      · exact h
      · rw [List.getElem?_eq_none (by omega)] at hv; cases hv
    rw [bcells_at _ _ (by rw [List.length_take]; omega), gt_take _ _ _ hj] at hv
    rw [hc j (by omega), ← hv]) (by rw [hlen]; simp [hcells_len]; omega) (bcells_one _)
  have e : (hcells s1).toArray.toList = hcells s1 := rfl
  rw [e, List.append_assoc, splice_cells s1 a0 (l.take k) (by rw [List.length_take]; omega), hlen] at hrun
  exact ⟨_, hrun, HsAt.of_heap (setRow_heap w g _ _ 109 _ hS.heap), only_setRow (World.grownBy.refl _ _) (.inl rfl) _⟩

theorem take_lt {l : List Nat} (h : ∀ j, gt l j < 256) (k : Nat) : ∀ j, gt (l.take k) j < 256 := by
  intro j
  by_cases hj : j < k
  · rw [gt_take _ _ _ hj]; exact h j
  · rw [gt_ge _ _ (by rw [List.length_take]; omega)]; omega
theorem step_part (st buf l : List Nat) (sn a k : Nat) (hb : buf.length = 64) (ha : a = sn % 64) (hk0 : 0 < k) (hkl : k ≤ l.length) (hle : a + k ≤ 64) :
    takeAll ⟨st, buf, sn⟩ l = takeAll (if a + k = 64 then ⟨change st (over buf a (l.take k)), over buf a (l.take k), sn + k⟩ else ⟨st, over buf a (l.take k), sn + k⟩) (l.drop k) := by
  have hl : (l.take k).length = k := by rw [List.length_take]; omega
  have e : takeAll ⟨st, buf, sn⟩ l = takeAll (takeAll ⟨st, buf, sn⟩ (l.take k)) (l.drop k) := by rw [← takeAll_append, List.take_append_drop]
  rw [e, take_fit (l.take k) ⟨st, buf, sn⟩ hb (by intro h; rw [h] at hl; simp at hl; omega) (by rw [hl]; dsimp only; omega)]
  simp only [hl, ← ha]
theorem good_over {st buf l : List Nat} {sn : Nat} (h : Good ⟨st, buf, sn⟩) (hl : ∀ j, gt l j < 256) (a k m : Nat) : Good ⟨st, over buf a (l.take k), m⟩ :=
  ⟨h.st, ok_over h.buf a (take_lt hl k)⟩
theorem min_pick (m r : Nat) (hm : 0 < m) (hr : 0 < r) : ∃ k : Nat, k = Nat.min m r ∧ k ≤ m ∧ k ≤ r ∧ 0 < k ∧ (k < r → m ≤ k) := by
  have h : Nat.min m r = min m r := rfl
  exact ⟨min m r, h.symm, by omega, by omega, by omega, by omega⟩
theorem slice_buf (g a r : Nat) (h : a + r = 64) (hr : 0 < r) (w : World) : (Instr.sliceAt 87 (.pointer (some ⟨g, 8, none⟩)) (some (.int .i64 (a : Int))) none none).run Tryd.prog w = .ok (.slice (some ⟨g, 8 + a, none⟩) r r) w := by
  have h1 : Tryd.prog.underlying 87 = some (.array (Tryd.prog.arrayLen 87) (Tryd.prog.elem 87)) := by kernel_rfl
  have h2 : Tryd.prog.arrayLen 87 = 64 := by kernel_rfl
  have h3 : Tryd.prog.elem 87 = 5 := by kernel_rfl
  rw [run_sliceAt_array_l w 87 _ h1 .i64 (a : Int) (by omega) (by rw [h2]; omega), h2, h3]
  have h4 : (Tryd.prog.info? 5).map (·.size) = some 1 := by kernel_rfl
  cases hq : Tryd.prog.info? 5 with
  | none => simp [hq] at h4
  | some i =>
    have hs1 : i.size = 1 := by simpa [hq] using h4
    have e1 : ((⟨g, 8, none⟩ : Addr).add a) = ⟨g, 8 + a, none⟩ := by unfold Addr.add; split <;> simp_all
    have e2 : 64 - a = r := by omega
    simp [sizeOf, typeInfo, hq, hs1, slicedAt, e1, e2]
    omega
theorem slice_tail (ad : Addr) (m c k r c2 : Nat) (h : k + r = m) (hmc : m ≤ c) (hc2 : k + c2 = c) :
    ∃ A2 : Option Addr, (k < m → A2 = some (ad.add k)) ∧ ∀ w, (Instr.slice 22 (.slice (some ad) m c) (some (.int .i64 (k : Int))) none none).run Tryd.prog w = .ok (.slice A2 r c2) w := by
  have h1 : Tryd.prog.underlying 22 = some (.slice (Tryd.prog.elem 22)) := by kernel_rfl
  have h3 : Tryd.prog.elem 22 = 5 := by kernel_rfl
  have h4 : (Tryd.prog.info? 5).map (·.size) = some 1 := by kernel_rfl
  cases hq : Tryd.prog.info? 5 with
  | none => simp [hq] at h4
  | some i =>
    have hs1 : i.size = 1 := by simpa [hq] using h4
    refine ⟨if c = k then some ad else some (ad.add k), fun hk => by rw [if_neg (by omega)], fun w => ?_⟩
    rw [run_slice_l (a := some ad) (len := m) (cap := c) (w := w) (t := 22) (ht := h1) .i64 (k : Int) (by omega) (by omega), h3]
    have e1 : m - k = r := by omega
    have e2 : c - k = c2 := by omega
    simp [sizeOf, typeInfo, hq, hs1, sliced, e1, e2]
    try (split <;> rfl)

set_option maxHeartbeats 1000000 in
set_option maxRecDepth 100000 in
theorem write_any (g : Nat) (s : Hs) (A : Option Addr) (bs : List Nat) (n c : Nat) (w : World) (hS : HsAt w g s) (hG : Good s) (hT : Tables w) (hg : 3 ≤ g)
    (hR : Rn w g A bs) (hn : bs.length = n) (hnc : n ≤ c) (hc : c ≤ 9223372036854775807) (hm : s.n + n ≤ 1152921504606846976) :
    Calls Tryd.prog 77 #[.pointer (some ⟨g, 0, none⟩), .slice A n c] w fun e' w' => e' = .returned (.tuple #[]) ∧ HsAt w' g (takeAll s bs) ∧ w.grownBy w' (some g) := by
  have hlt : g < w.heap.size := hS.lt
  have HS := Lib.hid hS; have HG := Lib.hid hG; have HT := Lib.hid hT; have HR := Lib.hid hR; have HN := Lib.hid (fun _ : Unit => hn); clear hS hG hT hR hn
  generalize hfin : takeAll s bs = fin
  have HF := Lib.hid (fun _ : Unit => hfin); clear hfin
  go_enter Tryd.func77, Tryd.ntmps77
  go_wp2
  go_loopw [1] (fun v W => ∃ (A1 : Option Addr) (l : List Nat) (m c1 : Nat) (s1 : Hs), v = .slice A1 m c1 ∧ m ≤ c1 ∧ c1 ≤ 9223372036854775807 ∧ s1.n + m ≤ 1152921504606846976 ∧ Hid (Unit → l.length = m) ∧ Hid (Unit → takeAll s1 l = fin) ∧ Hid (Rn W g A1 l) ∧ Hid (HsAt W g s1) ∧ Hid (Good s1) ∧ Hid (w.grownBy W (some g))) (fun v _ => match v with | .slice _ m _ => m | _ => 0)
  case atStart => exact ⟨A, bs, n, c, s, rfl, hnc, hc, hm, HN, HF, HR, HS, HG, Lib.hid (World.grownBy.refl _ _)⟩
  case round =>
    obtain ⟨A1, l, m, c1, s1, rfl, hmc, hc1, hsm, HN1, HF1, HR1, HS1, HG1, HW1⟩ := hrel
    by_cases h0 : m = 0
    · subst h0
      go_wp2
      go_end0
      have e : l = [] := List.eq_nil_of_length_eq_zero (HN1.out ())
      have e2 := HF1.out ()
      rw [e] at e2
      exact ⟨rfl, by rw [← e2]; exact HS1.out, HW1.out⟩
    · obtain ⟨ad, rfl, hadg, hadw, hcells⟩ := HR1.out.2 (by rw [HN1.out ()]; omega)
      have HC := Lib.hid hcells; clear hcells
      obtain ⟨st, buf, sn⟩ := s1
      dsimp only at hsm
      obtain ⟨a, ha, ha64⟩ : ∃ a : Nat, a = sn % 64 ∧ a < 64 := ⟨sn % 64, rfl, by omega⟩
      have c0 := HS1.out.len
      dsimp only at c0
      have hmod : ((sn : Int) % 64) = (a : Int) := by omega
      have hwr : IntKind.i64.wrap ((a : Int)) = (a : Int) := by rw [IntKind.wrap_i64]; omega
      have ya : (a : Int) < 64 := by omega
      have y1 : (0 : Int) < (m : Int) := by omega
      obtain ⟨r, har, har', hr0⟩ : ∃ r : Nat, a + r ≤ 64 ∧ 64 ≤ a + r ∧ 0 < r := ⟨64 - a, by omega, by omega, by omega⟩
      obtain ⟨k, hk, hkm, hkr, hk0, hkk⟩ := min_pick m r (by omega) hr0
      obtain ⟨r2, hr2, hr2'⟩ : ∃ r2 : Nat, k + r2 ≤ m ∧ m ≤ k + r2 := ⟨m - k, by omega, by omega⟩
      obtain ⟨c2, hc2, hc2'⟩ : ∃ c2 : Nat, k + c2 ≤ c1 ∧ c1 ≤ k + c2 := ⟨c1 - k, by omega, by omega⟩
      obtain ⟨A2, hA2, hst⟩ := slice_tail ad m c1 k r2 c2 (by omega) hmc (by omega)
      have hsb := slice_buf g a r (by omega) hr0
      have HA := Lib.hid (fun _ : Unit => ha); have HK := Lib.hid (fun _ : Unit => hk); have HA2 := Lib.hid hA2; clear ha hk hA2
      obtain ⟨W1, hrun, hS2, hG2⟩ := run_copy_hs g a r m c1 k ad wr ⟨st, buf, sn⟩ HS1.out l (HN1.out ()) (HK.out ()) HC.out har
      dsimp only at hS2
      have c3 := hS2.len
      have f3 := hS2.frozen 72
      dsimp only at c3
      have HS2 := Lib.hid hS2; have HW2 := Lib.hid (only_then HW1.out hG2 (.inl rfl)); have HR2 := Lib.hid (HR1.out.grown hG2); clear hS2 hG2
      have hwk : IntKind.u64.wrap ((k : Int)) = (k : Int) := by rw [IntKind.wrap_u64]; omega
      have hwl : IntKind.u64.wrap ((sn : Int) + (k : Int)) = ((sn + k : Nat) : Int) := by rw [IntKind.wrap_u64]; omega
      have hwl2 : ((sn : Int) + (k : Int)) % 18446744073709551616 = ((sn + k : Nat) : Int) := by omega
      by_cases hfull : a + k = 64
      · have hd : ((a : Int) + (k : Int) == 64) = true := by rw [beq_iff_eq]; omega
        have HH := Lib.hid (fun _ : Unit => hfull); clear hfull
        go_wp2
        have HS3 : Hid (HsAt (W1.setCell ⟨g, 72, none⟩ (.int .u64 ((sn : Int) + (k : Int)))) g ⟨st, over buf a (l.take k), sn + k⟩) := Lib.hid (HS2.out.setLen (sn + k))
        have HW3 := Lib.hid (only_set HW2.out (p := ⟨g, 72, none⟩) (.inl rfl) (.int .u64 ((sn : Int) + (k : Int))))
        have HR3 := Lib.hid (HR2.out.grown (only_set (World.grownBy.refl W1 (some g)) (p := ⟨g, 72, none⟩) (.inl rfl) (.int .u64 ((sn : Int) + (k : Int)))))
        generalize W1.setCell ⟨g, 72, none⟩ (.int .u64 ((sn : Int) + (k : Int))) = W2 at *
        have HGo := Lib.hid (good_over HG1.out HR1.out.1 a k (sn + k))
        have HST := Lib.hid (fun _ : Unit => (step_part st buf l sn a k HG1.out.buf.1 (HA.out ()) hk0 (by rw [HN1.out ()]; exact hkm) (by omega)).symm.trans (HF1.out ()))
        refine wp_region_still_tail 6 (by kernel_rfl) (by kernel_rfl) ?_
        simp only [List.take_succ_cons, List.take_zero, List.drop_succ_cons, List.drop_zero]
        repeat still_step
        refine wpStill_nil ?_
        change wpList _ _ _ _ _ W2.drew
        replace HS3 := Lib.hid HS3.out.drew
        replace HW3 := Lib.hid (only_drew HW3.out)
        replace HR3 := Lib.hid (HR3.out.grown (only_drew (World.grownBy.refl W2 (some g))))
        generalize W2.drew = W3 at *
        go_wp2_with fail
        refine (change_any g _ _ HS3.out HGo.out (HT.out.grown HW3.out hg) hg).mono ?_
        rintro e' W4 ⟨rfl, hS4, hG4⟩
        dsimp only at hS4
        have HS4 := Lib.hid hS4; have HW4 := Lib.hid (only_then HW3.out hG4 (.inl rfl)); have HR4 := Lib.hid (HR3.out.grown hG4); clear hS4 hG4
        go_wp2
        go_roundw
        case rel =>
          refine ⟨A2, l.drop k, r2, c2, ⟨change st (over buf a (l.take k)), over buf a (l.take k), sn + k⟩, rfl, by omega, by omega, by dsimp only; omega, Lib.hid fun _ => by rw [List.length_drop, HN1.out ()]; omega, Lib.hid fun _ => ?_, Lib.hid (HR4.out.drop k fun h => HA2.out (by rw [HN1.out ()] at h; exact h)), HS4, Lib.hid ⟨ok_change HG1.out.st, HGo.out.buf⟩, HW4⟩
          have := HST.out ()
          rwa [if_pos (HH.out ())] at this
        case measure => show r2 < m; omega
      · have hd : ((a : Int) + (k : Int) == 64) = false := by rw [beq_eq_false_iff_ne]; omega
        have HH := Lib.hid (fun _ : Unit => hfull); clear hfull
        go_wp2
        have HS3 : Hid (HsAt (W1.setCell ⟨g, 72, none⟩ (.int .u64 ((sn : Int) + (k : Int)))) g ⟨st, over buf a (l.take k), sn + k⟩) := Lib.hid (HS2.out.setLen (sn + k))
        have HW3 := Lib.hid (only_set HW2.out (p := ⟨g, 72, none⟩) (.inl rfl) (.int .u64 ((sn : Int) + (k : Int))))
        have HR3 := Lib.hid (HR2.out.grown (only_set (World.grownBy.refl W1 (some g)) (p := ⟨g, 72, none⟩) (.inl rfl) (.int .u64 ((sn : Int) + (k : Int)))))
        have HGo := Lib.hid (good_over HG1.out HR1.out.1 a k (sn + k))
        have HST := Lib.hid (fun _ : Unit => (step_part st buf l sn a k HG1.out.buf.1 (HA.out ()) hk0 (by rw [HN1.out ()]; exact hkm) (by omega)).symm.trans (HF1.out ()))
        go_roundw
        case rel =>
          refine ⟨A2, l.drop k, r2, c2, ⟨st, over buf a (l.take k), sn + k⟩, rfl, by omega, by omega, by dsimp only; omega, Lib.hid fun _ => by rw [List.length_drop, HN1.out ()]; omega, Lib.hid fun _ => ?_, Lib.hid (HR3.out.drop k fun h => HA2.out (by rw [HN1.out ()] at h; exact h)), HS3, HGo, HW3⟩
          have := HST.out ()
          rwa [if_neg (HH.out ())] at this
        case measure => show r2 < m; omega
end Go.Proofs.YtkplkfokpniflaaDoor.Sha
