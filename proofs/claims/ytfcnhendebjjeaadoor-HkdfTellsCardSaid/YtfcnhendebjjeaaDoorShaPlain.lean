/- Plain mathematics of SHA-256 as the program reckons it: words, a block, taking, the end, the sum; nothing of the program. -/
import Derived.Laws.BitsAllLaws
namespace Go.Proofs.YtfcnhendebjjeaaDoor.Sha
set_option linter.all false

def gt (ws : List Nat) (i : Nat) : Nat := ws.getD i 0
def tab (n : Nat) (g : Nat → Nat) : List Nat := (List.range n).map g
theorem gt_set (ws : List Nat) (i j v : Nat) (h : i < ws.length) : gt (ws.set i v) j = if j = i then v else gt ws j := by
  unfold gt
  rw [List.getD_eq_getElem?_getD, List.getD_eq_getElem?_getD, List.getElem?_set]
  by_cases e : i = j
  · subst e; simp [h]
  · rw [if_neg e, if_neg (fun x => e x.symm)]
theorem gt_tab (n : Nat) (g : Nat → Nat) (i : Nat) (h : i < n) : gt (tab n g) i = g i := by
  unfold gt tab
  rw [List.getD_eq_getElem?_getD, List.getElem?_map, List.getElem?_range h]; rfl
theorem gt_ge (ws : List Nat) (i : Nat) (h : ws.length ≤ i) : gt ws i = 0 := by
  unfold gt
  rw [List.getD_eq_getElem?_getD, List.getElem?_eq_none h]; rfl
theorem tab_len (n : Nat) (g : Nat → Nat) : (tab n g).length = n := by simp [tab]
theorem ext_gt {n : Nat} {a b : List Nat} (ha : a.length = n) (hb : b.length = n) (h : ∀ i, i < n → gt a i = gt b i) : a = b := by
  apply List.ext_getElem (by rw [ha, hb])
  intro i h1 h2
  have := h i (by omega)
  unfold gt at this
  rwa [List.getD_eq_getElem?_getD, List.getD_eq_getElem?_getD, List.getElem?_eq_getElem h1, List.getElem?_eq_getElem h2] at this
theorem gt_mem {l : List Nat} {i : Nat} (h : i < l.length) : gt l i ∈ l := by
  unfold gt
  rw [List.getD_eq_getElem?_getD, List.getElem?_eq_getElem h]; exact List.getElem_mem _
theorem gt_append (a b : List Nat) (j : Nat) : gt (a ++ b) j = if j < a.length then gt a j else gt b (j - a.length) := by
  unfold gt
  rw [List.getD_eq_getElem?_getD, List.getElem?_append]
  split
  · rw [List.getD_eq_getElem?_getD]
  · rw [List.getD_eq_getElem?_getD]

/-- n numbers below m -/
def Ok (m n : Nat) (ws : List Nat) : Prop := ws.length = n ∧ ∀ i, gt ws i < m
theorem ok_tab {m n : Nat} (h0 : 0 < m) (g : Nat → Nat) (h : ∀ i, i < n → g i < m) : Ok m n (tab n g) := by
  refine ⟨tab_len n g, fun i => ?_⟩
  by_cases hi : i < n
  · rw [gt_tab n g i hi]; exact h i hi
  · rw [gt_ge _ _ (by rw [tab_len]; omega)]; exact h0
theorem ok_set {m n : Nat} {ws : List Nat} (h : Ok m n ws) (i v : Nat) (hi : i < n) (hv : v < m) : Ok m n (ws.set i v) := by
  refine ⟨by simp [h.1], fun j => ?_⟩
  rw [gt_set ws i j v (by rw [h.1]; exact hi)]
  split
  · exact hv
  · exact h.2 j
abbrev M : Nat := 4294967296
theorem xor_lt {a b : Nat} (ha : a < 4294967296) (hb : b < 4294967296) : a ^^^ b < 4294967296 := Nat.xor_lt_two_pow (n := 32) ha hb
theorem or_lt {a b : Nat} (ha : a < 4294967296) (hb : b < 4294967296) : a ||| b < 4294967296 := Nat.or_lt_two_pow (n := 32) ha hb
theorem and_lt {a b : Nat} (hb : b < 4294967296) : a &&& b < 4294967296 := Nat.and_lt_two_pow (n := 32) a hb

def add (a b : Nat) : Nat := (a + b) % 4294967296
theorem add_lt (a b : Nat) : add a b < 4294967296 := Nat.mod_lt _ (by omega)
def notw (x : Nat) : Nat := 4294967295 - x
theorem notw_lt (x : Nat) : notw x < 4294967296 := by unfold notw; omega
def rotr (x k : Nat) : Nat := (x * 2 ^ (32 - k) % 4294967296) ||| (x / 2 ^ k)
theorem rotr_lt (x k : Nat) (hx : x < 4294967296) : rotr x k < 4294967296 :=
  or_lt (Nat.mod_lt _ (by omega)) (Nat.lt_of_le_of_lt (Nat.div_le_self _ _) hx)
def turned (x a b c : Nat) : Nat := (rotr x a ^^^ rotr x b) ^^^ rotr x c
theorem turned_lt (x a b c : Nat) (hx : x < 4294967296) : turned x a b c < 4294967296 := xor_lt (xor_lt (rotr_lt _ _ hx) (rotr_lt _ _ hx)) (rotr_lt _ _ hx)
def sig0 (x : Nat) : Nat := (rotr x 7 ^^^ rotr x 18) ^^^ (x / 8)
def sig1 (x : Nat) : Nat := (rotr x 17 ^^^ rotr x 19) ^^^ (x / 1024)
theorem sig0_lt (x : Nat) (hx : x < 4294967296) : sig0 x < 4294967296 := xor_lt (xor_lt (rotr_lt _ _ hx) (rotr_lt _ _ hx)) (Nat.lt_of_le_of_lt (Nat.div_le_self _ _) hx)
theorem sig1_lt (x : Nat) (hx : x < 4294967296) : sig1 x < 4294967296 := xor_lt (xor_lt (rotr_lt _ _ hx) (rotr_lt _ _ hx)) (Nat.lt_of_le_of_lt (Nat.div_le_self _ _) hx)

/-- a block's words -/
def packw (w : List Nat) (i v : Nat) : Nat := (gt w (i / 4) * 256 % 4294967296) ||| v
def packTo (b : List Nat) : Nat → List Nat
  | 0 => tab 64 fun _ => 0
  | n + 1 => (packTo b n).set (n / 4) (packw (packTo b n) n (gt b n))
theorem ok_packTo {b : List Nat} (h : Ok 256 64 b) : ∀ n, n ≤ 64 → Ok 4294967296 64 (packTo b n)
  | 0, _ => ok_tab (by omega) _ fun _ _ => by omega
  | n + 1, hn => ok_set (ok_packTo h n (by omega)) _ _ (by omega) (or_lt (Nat.mod_lt _ (by omega)) (by have := h.2 n; omega))
/-- word i + 16 -/
def nextw (w : List Nat) (i : Nat) : Nat := add (add (add (gt w i) (sig0 (gt w (i + 1)))) (gt w (i + 9))) (sig1 (gt w (i + 14)))
def moreTo (w : List Nat) : Nat → List Nat
  | 0 => w
  | n + 1 => (moreTo w n).set (n + 16) (nextw (moreTo w n) n)
theorem ok_moreTo {w : List Nat} (h : Ok 4294967296 64 w) : ∀ n, n ≤ 48 → Ok 4294967296 64 (moreTo w n)
  | 0, _ => h
  | n + 1, hn => ok_set (ok_moreTo h n (by omega)) _ _ (by omega) (add_lt _ _)
def wordsOf (b : List Nat) : List Nat := moreTo (packTo b 64) 48
theorem ok_wordsOf {b : List Nat} (h : Ok 256 64 b) : Ok 4294967296 64 (wordsOf b) := ok_moreTo (ok_packTo h 64 (Nat.le_refl _)) 48 (Nat.le_refl _)

def consT : List Nat := [
  0x428a2f98, 0x71374491, 0xb5c0fbcf, 0xe9b5dba5, 0x3956c25b, 0x59f111f1, 0x923f82a4, 0xab1c5ed5,
  0xd807aa98, 0x12835b01, 0x243185be, 0x550c7dc3, 0x72be5d74, 0x80deb1fe, 0x9bdc06a7, 0xc19bf174,
  0xe49b69c1, 0xefbe4786, 0x0fc19dc6, 0x240ca1cc, 0x2de92c6f, 0x4a7484aa, 0x5cb0a9dc, 0x76f988da,
  0x983e5152, 0xa831c66d, 0xb00327c8, 0xbf597fc7, 0xc6e00bf3, 0xd5a79147, 0x06ca6351, 0x14292967,
  0x27b70a85, 0x2e1b2138, 0x4d2c6dfc, 0x53380d13, 0x650a7354, 0x766a0abb, 0x81c2c92e, 0x92722c85,
  0xa2bfe8a1, 0xa81a664b, 0xc24b8b70, 0xc76c51a3, 0xd192e819, 0xd6990624, 0xf40e3585, 0x106aa070,
  0x19a4c116, 0x1e376c08, 0x2748774c, 0x34b0bcb5, 0x391c0cb3, 0x4ed8aa4a, 0x5b9cca4f, 0x682e6ff3,
  0x748f82ee, 0x78a5636f, 0x84c87814, 0x8cc70208, 0x90befffa, 0xa4506ceb, 0xbef9a3f7, 0xc67178f2]
def firstT : List Nat := [0x6a09e667, 0xbb67ae85, 0x3c6ef372, 0xa54ff53a, 0x510e527f, 0x9b05688c, 0x1f83d9ab, 0x5be0cd19]
theorem cons_lt (i : Nat) (h : i < 64) : gt consT i < 4294967296 := (by decide +kernel : ∀ i : Fin 64, gt consT i.1 < 4294967296) ⟨i, h⟩
theorem ok_first : Ok 4294967296 8 firstT := by
  refine ⟨rfl, fun i => ?_⟩
  by_cases h : i < 8
  · exact (by decide : ∀ i : Fin 8, gt firstT i.1 < 4294967296) ⟨i, h⟩
  · rw [gt_ge _ _ (by show 8 ≤ i; omega)]; omega

def ch (e f g : Nat) : Nat := (e &&& f) ^^^ (notw e &&& g)
theorem ch_lt {e f g : Nat} (hf : f < 4294967296) (hg : g < 4294967296) : ch e f g < 4294967296 := xor_lt (and_lt hf) (and_lt hg)
def maj (a b c : Nat) : Nat := ((a &&& b) ^^^ (a &&& c)) ^^^ (b &&& c)
theorem maj_lt {a b c : Nat} (hb : b < 4294967296) (hc : c < 4294967296) : maj a b c < 4294967296 := xor_lt (xor_lt (and_lt hb) (and_lt hc)) (and_lt hc)
def tOf (s : List Nat) (k w : Nat) : Nat := add (add (add (add (gt s 7) (turned (gt s 4) 6 11 25)) (ch (gt s 4) (gt s 5) (gt s 6))) k) w
def uOf (s : List Nat) : Nat := add (turned (gt s 0) 2 13 22) (maj (gt s 0) (gt s 1) (gt s 2))
def round (s : List Nat) (k w : Nat) : List Nat := [add (tOf s k w) (uOf s), gt s 0, gt s 1, gt s 2, add (gt s 3) (tOf s k w), gt s 4, gt s 5, gt s 6]
theorem gt_cons_zero (x : Nat) (l : List Nat) : gt (x :: l) 0 = x := rfl
theorem gt_cons_succ (x : Nat) (l : List Nat) (i : Nat) : gt (x :: l) (i + 1) = gt l i := rfl
theorem ok_cons {m n x : Nat} {l : List Nat} (hx : x < m) (h : Ok m n l) : Ok m (n + 1) (x :: l) := by
  refine ⟨by simp [h.1], fun i => ?_⟩
  cases i with
  | zero => rw [gt_cons_zero]; exact hx
  | succ i => rw [gt_cons_succ]; exact h.2 i
theorem ok_nil {m : Nat} (h : 0 < m) : Ok m 0 [] := ⟨rfl, fun i => by rw [gt_ge _ _ (Nat.zero_le _)]; exact h⟩
theorem ok_round {s : List Nat} (h : Ok 4294967296 8 s) (k w : Nat) : Ok 4294967296 8 (round s k w) :=
  ok_cons (add_lt _ _) (ok_cons (h.2 0) (ok_cons (h.2 1) (ok_cons (h.2 2) (ok_cons (add_lt _ _) (ok_cons (h.2 4) (ok_cons (h.2 5) (ok_cons (h.2 6) (ok_nil (by omega)))))))))
def roundsTo (w s : List Nat) : Nat → List Nat
  | 0 => s
  | n + 1 => round (roundsTo w s n) (gt consT n) (gt w n)
theorem ok_roundsTo {w s : List Nat} (h : Ok 4294967296 8 s) : ∀ n, Ok 4294967296 8 (roundsTo w s n)
  | 0 => h
  | n + 1 => ok_round (ok_roundsTo h n) _ _
/-- v is added to the first k words of s -/
def sumTo (s v : List Nat) (k : Nat) : List Nat := tab 8 fun i => if i < k then add (gt s i) (gt v i) else gt s i
theorem ok_sumTo {s v : List Nat} (h : Ok 4294967296 8 s) (k : Nat) : Ok 4294967296 8 (sumTo s v k) := by
  refine ok_tab (by omega) _ fun i _ => ?_
  split
  · exact add_lt _ _
  · exact h.2 _
theorem sumTo_zero {s v : List Nat} (h : Ok 4294967296 8 s) : sumTo s v 0 = s := by
  refine ext_gt (tab_len _ _) h.1 fun i hi => ?_
  unfold sumTo; rw [gt_tab _ _ _ hi, if_neg (by omega)]
theorem gt_sumTo {s v : List Nat} {k : Nat} (hk : k < 8) : gt (sumTo s v k) k = gt s k := by
  unfold sumTo; rw [gt_tab _ _ _ hk, if_neg (by omega)]
theorem sumTo_succ {s v : List Nat} {k : Nat} (hk : k < 8) : (sumTo s v k).set k (add (gt s k) (gt v k)) = sumTo s v (k + 1) := by
  refine ext_gt (by simp [sumTo, tab]) (tab_len _ _) fun i hi => ?_
  rw [gt_set _ _ _ _ (by rw [sumTo, tab_len]; exact hk)]
  unfold sumTo
  rw [gt_tab _ _ _ hi, gt_tab _ _ _ hi]
  by_cases e : i = k
  · subst e; simp
  · rw [if_neg e]
    by_cases h : i < k
    · rw [if_pos h, if_pos (by omega)]
    · rw [if_neg h, if_neg (by omega)]
def change (s b : List Nat) : List Nat := sumTo s (roundsTo (wordsOf b) s 64) 8
theorem ok_change {s b : List Nat} (h : Ok 4294967296 8 s) : Ok 4294967296 8 (change s b) := ok_sumTo h 8

/-- a hash: the state, the block that waits, how many bytes there were -/
structure Hs where
  st : List Nat
  buf : List Nat
  n : Nat
structure Good (s : Hs) : Prop where
  st : Ok 4294967296 8 s.st
  buf : Ok 256 64 s.buf
def start : Hs := ⟨firstT, tab 64 fun _ => 0, 0⟩
theorem good_start : Good start := ⟨ok_first, ok_tab (by omega) _ fun _ _ => by omega⟩
def takeOne (s : Hs) (v : Nat) : Hs :=
  if s.n % 64 = 63 then ⟨change s.st (s.buf.set (s.n % 64) v), s.buf.set (s.n % 64) v, s.n + 1⟩ else ⟨s.st, s.buf.set (s.n % 64) v, s.n + 1⟩
theorem good_takeOne {s : Hs} (h : Good s) {v : Nat} (hv : v < 256) : Good (takeOne s v) := by
  unfold takeOne
  have hb := ok_set h.buf (s.n % 64) v (by omega) hv
  split
  · exact ⟨ok_change h.st, hb⟩
  · exact ⟨h.st, hb⟩
theorem takeOne_n (s : Hs) (v : Nat) : (takeOne s v).n = s.n + 1 := by
  unfold takeOne; split <;> rfl
def takeAll (s : Hs) (l : List Nat) : Hs := l.foldl takeOne s
theorem good_takeAll : ∀ (l : List Nat) {s : Hs}, Good s → (∀ i, gt l i < 256) → Good (takeAll s l)
  | [], _, h, _ => h
  | v :: l, _, h, hl => good_takeAll l (good_takeOne h (hl 0)) fun i => hl (i + 1)
theorem takeAll_n : ∀ (l : List Nat) (s : Hs), (takeAll s l).n = s.n + l.length
  | [], _ => rfl
  | v :: l, s => by
    show (takeAll (takeOne s v) l).n = _
    rw [takeAll_n l, takeOne_n]; simp; omega
theorem takeAll_append (s : Hs) (a b : List Nat) : takeAll s (a ++ b) = takeAll (takeAll s a) b := by
  unfold takeAll; rw [List.foldl_append]
/-- l laid over b from o on -/
def over (b : List Nat) (o : Nat) (l : List Nat) : List Nat := tab 64 fun i => if o ≤ i ∧ i < o + l.length then gt l (i - o) else gt b i
theorem over_nil {b : List Nat} (h : b.length = 64) (o : Nat) : over b o [] = b := by
  refine ext_gt (tab_len _ _) h fun i hi => ?_
  unfold over; rw [gt_tab _ _ _ hi, if_neg (by simp)]
theorem over_cons {b : List Nat} (h : b.length = 64) (o v : Nat) (l : List Nat) (ho : o < 64) : over (b.set o v) (o + 1) l = over b o (v :: l) := by
  refine ext_gt (tab_len _ _) (tab_len _ _) fun i hi => ?_
  unfold over
  rw [gt_tab _ _ _ hi, gt_tab _ _ _ hi, gt_set _ _ _ _ (by omega)]
  simp only [List.length_cons]
  by_cases e : i = o
  · subst e
    rw [if_neg (by omega), if_pos rfl, if_pos (by omega)]; simp [gt]
  · by_cases hc : o + 1 ≤ i ∧ i < o + 1 + l.length
    · rw [if_pos hc, if_pos (by omega)]
      obtain ⟨j, rfl⟩ : ∃ j, i = o + 1 + j := ⟨i - (o + 1), by omega⟩
      rw [show o + 1 + j - (o + 1) = j by omega, show o + 1 + j - o = j + 1 by omega]; rfl
    · rw [if_neg hc, if_neg e, if_neg (by omega)]
theorem ok_over {b : List Nat} (h : Ok 256 64 b) (o : Nat) {l : List Nat} (hl : ∀ i, gt l i < 256) : Ok 256 64 (over b o l) := by
  refine ok_tab (by omega) _ fun i _ => ?_
  split
  · exact hl _
  · exact h.2 _
/-- as many as fit into the block, at once -/
theorem take_fit : ∀ (l : List Nat) (s : Hs), s.buf.length = 64 → l ≠ [] → s.n % 64 + l.length ≤ 64 →
    takeAll s l = if s.n % 64 + l.length = 64 then ⟨change s.st (over s.buf (s.n % 64) l), over s.buf (s.n % 64) l, s.n + l.length⟩ else ⟨s.st, over s.buf (s.n % 64) l, s.n + l.length⟩
  | [v], s, hb, _, h => by
    show takeOne s v = _
    have ho : over s.buf (s.n % 64) [v] = s.buf.set (s.n % 64) v := by
      rw [← over_cons hb _ _ _ (by omega), over_nil (by simp [hb])]
    rw [ho]
    unfold takeOne
    simp only [List.length_cons, List.length_nil]
    by_cases e : s.n % 64 = 63
    · rw [if_pos e, if_pos (by omega)]
    · rw [if_neg e, if_neg (by omega)]
  | v :: u :: l, s, hb, _, h => by
    simp only [List.length_cons] at h
    show takeAll (takeOne s v) (u :: l) = _
    have e : takeOne s v = ⟨s.st, s.buf.set (s.n % 64) v, s.n + 1⟩ := by unfold takeOne; rw [if_neg (by omega)]
    rw [e, take_fit (u :: l) _ (by simp [hb]) (by simp) (by simp only [List.length_cons]; omega)]
    have hm : (s.n + 1) % 64 = s.n % 64 + 1 := by omega
    simp only [hm, List.length_cons]
    rw [over_cons hb _ _ _ (by omega)]
    have e1 : s.n % 64 + 1 + (l.length + 1) = s.n % 64 + (l.length + 1 + 1) := by omega
    have e2 : s.n + 1 + (l.length + 1) = s.n + (l.length + 1 + 1) := by omega
    rw [e1, e2]

/-- the end of so many bytes -/
def endLen (n : Nat) : Nat := 1 + (64 - (n + 9) % 64) % 64 + 8
def endAt (n k j : Nat) : Nat := if endLen n - k ≤ j then n * 8 / 2 ^ (8 * (endLen n - 1 - j)) % 256 else if j = 0 then 128 else 0
def endL (n : Nat) : List Nat := tab (endLen n) (endAt n 8)
theorem endLen_ge (n : Nat) : 9 ≤ endLen n := by unfold endLen; omega
theorem endLen_le (n : Nat) : endLen n ≤ 72 := by unfold endLen; omega
theorem endAt_lt (n k j : Nat) : endAt n k j < 256 := by
  unfold endAt
  split
  · exact Nat.mod_lt _ (by omega)
  · split <;> omega
theorem endL_len (n : Nat) : (endL n).length = endLen n := tab_len _ _
theorem endL_lt (n : Nat) : ∀ i, gt (endL n) i < 256 := (ok_tab (m := 256) (by omega) _ fun i _ => endAt_lt n 8 i).2
/-- the state's words as bytes -/
def wbytes (x : Nat) : List Nat := [x / 16777216 % 256, x / 65536 % 256, x / 256 % 256, x % 256]
def toldTo (s : List Nat) : Nat → List Nat
  | 0 => []
  | n + 1 => toldTo s n ++ wbytes (gt s n)
theorem toldTo_len (s : List Nat) : ∀ n, (toldTo s n).length = 4 * n
  | 0 => rfl
  | n + 1 => by
    show (toldTo s n ++ wbytes (gt s n)).length = _
    rw [List.length_append, toldTo_len s n]; simp [wbytes]; omega
def told (s : List Nat) : List Nat := toldTo s 8
theorem told_len (s : List Nat) : (told s).length = 32 := toldTo_len s 8
theorem wbytes_lt (x : Nat) : ∀ v ∈ wbytes x, v < 256 := by
  intro v hv
  simp only [wbytes, List.mem_cons, List.not_mem_nil, or_false] at hv
  rcases hv with rfl | rfl | rfl | rfl <;> omega
theorem toldTo_lt (s : List Nat) : ∀ n, ∀ v ∈ toldTo s n, v < 256
  | 0, v, h => by cases h
  | n + 1, v, h => by
    rcases List.mem_append.1 h with h | h
    · exact toldTo_lt s n v h
    · exact wbytes_lt _ v h
/-- the sum that a hash tells -/
def sumOf (s : Hs) : List Nat := told (takeAll s (endL s.n)).st
theorem sumOf_len (s : Hs) : (sumOf s).length = 32 := told_len _
theorem sumOf_lt (s : Hs) : ∀ v ∈ sumOf s, v < 256 := toldTo_lt _ 8
def sum (l : List Nat) : List Nat := sumOf (takeAll start l)

end Go.Proofs.YtfcnhendebjjeaaDoor.Sha
