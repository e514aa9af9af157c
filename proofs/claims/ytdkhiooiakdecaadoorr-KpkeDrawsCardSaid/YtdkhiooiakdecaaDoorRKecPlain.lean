/- Plain mathematics of the sponge: words, the round, the change; nothing of the program. -/
import Derived.Laws.BitsAllLaws
namespace Go.Proofs.YtdkhiooiakdecaaDoorR.Kec
set_option linter.all false

def gt (ws : List Nat) (i : Nat) : Nat := ws.getD i 0
def tab (g : Nat → Nat) : List Nat := (List.range 25).map g
def Ok (ws : List Nat) : Prop := ws.length = 25 ∧ ∀ i, gt ws i < 18446744073709551616

theorem gt_set (ws : List Nat) (i j v : Nat) (h : i < ws.length) : gt (ws.set i v) j = if j = i then v else gt ws j := by
  unfold gt
  rw [List.getD_eq_getElem?_getD, List.getD_eq_getElem?_getD, List.getElem?_set]
  by_cases e : i = j
  · subst e; simp [h]
  · rw [if_neg e, if_neg (fun x => e x.symm)]
theorem gt_tab (g : Nat → Nat) (i : Nat) (h : i < 25) : gt (tab g) i = g i := by
  unfold gt tab
  rw [List.getD_eq_getElem?_getD, List.getElem?_map, List.getElem?_range h]; rfl
theorem gt_ge (ws : List Nat) (i : Nat) (h : ws.length ≤ i) : gt ws i = 0 := by
  unfold gt
  rw [List.getD_eq_getElem?_getD, List.getElem?_eq_none h]; rfl
theorem tab_len (g : Nat → Nat) : (tab g).length = 25 := by simp [tab]
theorem ok_tab (g : Nat → Nat) (h : ∀ i, i < 25 → g i < 18446744073709551616) : Ok (tab g) := by
  refine ⟨tab_len g, fun i => ?_⟩
  by_cases hi : i < 25
  · rw [gt_tab g i hi]; exact h i hi
  · rw [gt_ge _ _ (by rw [tab_len]; omega)]; omega
theorem ok_set {ws : List Nat} (h : Ok ws) (i v : Nat) (hi : i < 25) (hv : v < 18446744073709551616) : Ok (ws.set i v) := by
  refine ⟨by simp [h.1], fun j => ?_⟩
  rw [gt_set ws i j v (by rw [h.1]; exact hi)]
  split
  · exact hv
  · exact h.2 j
theorem ext25 {a b : List Nat} (ha : a.length = 25) (hb : b.length = 25) (h : ∀ i, i < 25 → gt a i = gt b i) : a = b := by
  apply List.ext_getElem (by rw [ha, hb])
  intro i h1 h2
  have := h i (by omega)
  unfold gt at this
  rwa [List.getD_eq_getElem?_getD, List.getD_eq_getElem?_getD, List.getElem?_eq_getElem h1, List.getElem?_eq_getElem h2] at this

theorem xor_lt {a b : Nat} (ha : a < 18446744073709551616) (hb : b < 18446744073709551616) : a ^^^ b < 18446744073709551616 :=
  Nat.xor_lt_two_pow (n := 64) ha hb
theorem or_lt {a b : Nat} (ha : a < 18446744073709551616) (hb : b < 18446744073709551616) : a ||| b < 18446744073709551616 :=
  Nat.or_lt_two_pow (n := 64) ha hb
theorem and_lt {a b : Nat} (hb : b < 18446744073709551616) : a &&& b < 18446744073709551616 :=
  Nat.and_lt_two_pow (n := 64) a hb

def rotl (x k : Nat) : Nat := (x * 2 ^ k % 18446744073709551616) ||| (x / 2 ^ (64 - k))
theorem rotl_lt (x k : Nat) (hx : x < 18446744073709551616) : rotl x k < 18446744073709551616 :=
  or_lt (Nat.mod_lt _ (by omega)) (Nat.lt_of_le_of_lt (Nat.div_le_self _ _) hx)
def notw (x : Nat) : Nat := 18446744073709551615 - x
theorem notw_lt (x : Nat) : notw x < 18446744073709551616 := by unfold notw; omega

def col (ws : List Nat) (x : Nat) : Nat := (((gt ws x ^^^ gt ws (x + 5)) ^^^ gt ws (x + 10)) ^^^ gt ws (x + 15)) ^^^ gt ws (x + 20)
theorem col_lt {ws : List Nat} (h : Ok ws) (x : Nat) : col ws x < 18446744073709551616 :=
  xor_lt (xor_lt (xor_lt (xor_lt (h.2 _) (h.2 _)) (h.2 _)) (h.2 _)) (h.2 _)
def dcol (ws : List Nat) (x : Nat) : Nat := col ws ((x + 4) % 5) ^^^ rotl (col ws ((x + 1) % 5)) 1
theorem dcol_lt {ws : List Nat} (h : Ok ws) (x : Nat) : dcol ws x < 18446744073709551616 := xor_lt (col_lt h _) (rotl_lt _ _ (col_lt h _))
def spreadTo (ws : List Nat) (k : Nat) : List Nat := tab fun i => if i % 5 < k then gt ws i ^^^ dcol ws (i % 5) else gt ws i
def spread (ws : List Nat) : List Nat := tab fun i => gt ws i ^^^ dcol ws (i % 5)
theorem ok_spreadTo {ws : List Nat} (h : Ok ws) (k : Nat) : Ok (spreadTo ws k) := by
  refine ok_tab _ fun i _ => ?_
  split
  · exact xor_lt (h.2 _) (dcol_lt h _)
  · exact h.2 _
theorem ok_spread {ws : List Nat} (h : Ok ws) : Ok (spread ws) := ok_tab _ fun i _ => xor_lt (h.2 _) (dcol_lt h _)
theorem spreadTo_five (ws : List Nat) : spreadTo ws 5 = spread ws := by
  unfold spreadTo spread tab
  apply List.map_congr_left
  intro i _
  rw [if_pos (Nat.mod_lt _ (by omega))]
theorem spreadTo_zero {ws : List Nat} (h : Ok ws) : spreadTo ws 0 = ws := by
  refine ext25 (tab_len _) h.1 fun i hi => ?_
  unfold spreadTo
  rw [gt_tab _ _ hi, if_neg (by omega)]
/-- the five stores of a column -/
theorem spreadTo_succ {ws : List Nat} (k : Nat) (hk : k < 5) :
    (((((spreadTo ws k).set k (gt ws k ^^^ dcol ws k)).set (k + 5) (gt ws (k + 5) ^^^ dcol ws k)).set (k + 10) (gt ws (k + 10) ^^^ dcol ws k)).set (k + 15) (gt ws (k + 15) ^^^ dcol ws k)).set (k + 20) (gt ws (k + 20) ^^^ dcol ws k) = spreadTo ws (k + 1) := by
  have hl : (spreadTo ws k).length = 25 := tab_len _
  refine ext25 (by simp [hl]) (tab_len _) fun i hi => ?_
  rw [gt_set _ _ _ _ (by simp [hl]; omega), gt_set _ _ _ _ (by simp [hl]; omega), gt_set _ _ _ _ (by simp [hl]; omega), gt_set _ _ _ _ (by simp [hl]; omega), gt_set _ _ _ _ (by omega)]
  unfold spreadTo
  rw [gt_tab _ _ hi, gt_tab _ _ hi]
  by_cases h : i % 5 = k
  · rw [if_pos (show i % 5 < k + 1 by omega), h]
    have : i = k ∨ i = k + 5 ∨ i = k + 10 ∨ i = k + 15 ∨ i = k + 20 := by omega
    rcases this with e | e | e | e | e <;> subst e <;> simp
  · rw [if_neg (by omega), if_neg (by omega), if_neg (by omega), if_neg (by omega), if_neg (by omega)]
    by_cases h2 : i % 5 < k
    · rw [if_pos h2, if_pos (by omega)]
    · rw [if_neg h2, if_neg (by omega)]
theorem gt_spreadTo {ws : List Nat} (k i : Nat) (hi : i < 25) (h : k ≤ i % 5) : gt (spreadTo ws k) i = gt ws i := by
  unfold spreadTo; rw [gt_tab _ _ hi, if_neg (by omega)]

def turnsT : List Nat := [0, 1, 62, 28, 27, 36, 44, 6, 55, 20, 3, 10, 43, 25, 39, 41, 45, 15, 21, 8, 18, 2, 61, 56, 14]
def placesT : List Nat := [0, 10, 20, 5, 15, 16, 1, 11, 21, 6, 7, 17, 2, 12, 22, 23, 8, 18, 3, 13, 14, 24, 9, 19, 4]
def roundsT : List Nat := [1, 32898, 9223372036854808714, 9223372039002292224, 32907, 2147483649, 9223372039002292353, 9223372036854808585, 138, 136, 2147516425, 2147483658, 2147516555, 9223372036854775947, 9223372036854808713, 9223372036854808579, 9223372036854808578, 9223372036854775936, 32778, 9223372039002259466, 9223372039002292353, 9223372036854808704, 2147483649, 9223372039002292232]
theorem places_lt (i : Nat) (h : i < 25) : gt placesT i < 25 := (by decide : ∀ i : Fin 25, gt placesT i.1 < 25) ⟨i, h⟩
theorem turns_lt (i : Nat) (h : i < 25) : gt turnsT i < 64 := (by decide : ∀ i : Fin 25, gt turnsT i.1 < 64) ⟨i, h⟩
theorem rounds_lt (i : Nat) (h : i < 24) : gt roundsT i < 18446744073709551616 := (by decide : ∀ i : Fin 24, gt roundsT i.1 < 18446744073709551616) ⟨i, h⟩

def zeros : List Nat := tab fun _ => 0
theorem ok_zeros : Ok zeros := ok_tab _ fun _ _ => by omega
def movedTo (ws : List Nat) : Nat → List Nat
  | 0 => zeros
  | n + 1 => (movedTo ws n).set (gt placesT n) (rotl (gt ws n) (gt turnsT n))
theorem ok_movedTo {ws : List Nat} (h : Ok ws) : ∀ n, n ≤ 25 → Ok (movedTo ws n)
  | 0, _ => ok_zeros
  | n + 1, hn => ok_set (ok_movedTo h n (by omega)) _ _ (places_lt n (by omega)) (rotl_lt _ _ (h.2 _))
def moved (ws : List Nat) : List Nat := movedTo ws 25

def joinw (b : List Nat) (i : Nat) : Nat := gt b i ^^^ (notw (gt b (i / 5 * 5 + (i % 5 + 1) % 5)) &&& gt b (i / 5 * 5 + (i % 5 + 2) % 5))
theorem joinw_lt {b : List Nat} (h : Ok b) (i : Nat) : joinw b i < 18446744073709551616 := xor_lt (h.2 _) (and_lt (h.2 _))
def joinTo (ws b : List Nat) (k : Nat) : List Nat := tab fun i => if i < k then joinw b i else gt ws i
def join (b : List Nat) : List Nat := tab (joinw b)
theorem ok_joinTo {ws b : List Nat} (h : Ok ws) (hb : Ok b) (k : Nat) : Ok (joinTo ws b k) := by
  refine ok_tab _ fun i _ => ?_
  split
  · exact joinw_lt hb _
  · exact h.2 _
theorem ok_join {b : List Nat} (hb : Ok b) : Ok (join b) := ok_tab _ fun i _ => joinw_lt hb i
theorem joinTo_zero {ws b : List Nat} (h : Ok ws) : joinTo ws b 0 = ws := by
  refine ext25 (tab_len _) h.1 fun i hi => ?_
  unfold joinTo; rw [gt_tab _ _ hi, if_neg (by omega)]
theorem joinTo_all (ws b : List Nat) : joinTo ws b 25 = join b := by
  unfold joinTo join tab
  apply List.map_congr_left
  intro i hi
  rw [if_pos (by simpa using hi)]
theorem joinTo_succ (ws b : List Nat) (k : Nat) (hk : k < 25) : (joinTo ws b k).set k (joinw b k) = joinTo ws b (k + 1) := by
  refine ext25 (by simp [joinTo, tab]) (tab_len _) fun i hi => ?_
  rw [gt_set _ _ _ _ (by rw [joinTo, tab_len]; exact hk)]
  unfold joinTo
  rw [gt_tab _ _ hi, gt_tab _ _ hi]
  by_cases e : i = k
  · subst e; simp
  · rw [if_neg e]
    by_cases h : i < k
    · rw [if_pos h, if_pos (by omega)]
    · rw [if_neg h, if_neg (by omega)]

def round (ws : List Nat) (c : Nat) : List Nat := (join (moved (spread ws))).set 0 (gt (join (moved (spread ws))) 0 ^^^ c)
theorem ok_round {ws : List Nat} (h : Ok ws) (c : Nat) (hc : c < 18446744073709551616) : Ok (round ws c) :=
  ok_set (ok_join (ok_movedTo (ok_spread h) 25 (Nat.le_refl _))) _ _ (by omega) (xor_lt ((ok_join (ok_movedTo (ok_spread h) 25 (Nat.le_refl _))).2 _) hc)
def changeTo (ws : List Nat) : Nat → List Nat
  | 0 => ws
  | n + 1 => round (changeTo ws n) (gt roundsT n)
theorem ok_changeTo {ws : List Nat} (h : Ok ws) : ∀ n, n ≤ 24 → Ok (changeTo ws n)
  | 0, _ => h
  | n + 1, hn => ok_round (ok_changeTo h n (by omega)) _ (rounds_lt n (by omega))
def change (ws : List Nat) : List Nat := changeTo ws 24
theorem ok_change {ws : List Nat} (h : Ok ws) : Ok (change ws) := ok_changeTo h 24 (Nat.le_refl _)

/-- a byte laid at a place of the state -/
def layw (ws : List Nat) (i v : Nat) : Nat := gt ws (i / 8) ^^^ (v * 2 ^ (8 * (i % 8)) % 18446744073709551616)
def lay (ws : List Nat) (i v : Nat) : List Nat := ws.set (i / 8) (layw ws i v)
theorem ok_lay {ws : List Nat} (h : Ok ws) (i v : Nat) (hi : i < 200) : Ok (lay ws i v) :=
  ok_set h _ _ (by omega) (xor_lt (h.2 _) (Nat.mod_lt _ (by omega)))
def byteAt (ws : List Nat) (i : Nat) : Nat := gt ws (i / 8) / 2 ^ (8 * (i % 8)) % 256
theorem byteAt_lt (ws : List Nat) (i : Nat) : byteAt ws i < 256 := Nat.mod_lt _ (by omega)

end Go.Proofs.YtdkhiooiakdecaaDoorR.Kec
