/- Plain mathematics of the sponge: words, the round, the change; nothing of the program. Memory: a block in which the 25 words of a state lie from an offset on. Walks: RotateLeft64, add, byteAt. Walks: spreadColumns. Walks: turnedAndMoved. Walks: joinRows. Walks: change, goOn. -/
import Derived.Laws.BitsAllLaws
import Derived.WalkKit
import Derived.Deep.OwnRows
import Derived.Deep.Draws
import Derived.Maps.AppendAt
import Derived.Deep.AppendLies
import Derived.Test.YtfhibjpkbbbfpaaDoorChecked
import Derived.WalkSpells
import Derived.WalkLawsBesides
import Derived.RegionTactic
import Derived.BigRegion
import Derived.BigQuiet
import Derived.Deep.QuietTactic
import Derived.Outline
import Derived.Lib.Hide
import Derived.Deep.WholeRow
import Derived.StillTailTactics
import Derived.Laws.CopyOwn
namespace Go.Proofs.YtfhibjpkbbbfpaaDoor.Kec
set_option linter.all false

def gt (ws : List Nat) (i : Nat) : Nat := ws.getD i 0
def tab (g : Nat → Nat) : List Nat := (List.range 25).map g
def Ok (ws : List Nat) : Prop := ws.length = 25 ∧ ∀ i, gt ws i < 18446744073709551616

theorem gt_set (ws : List Nat) (i j v : Nat) (h : i < ws.length) : gt (ws.set i v) j = if j = i then v else gt ws j := by
  unfold gt
  rw [List.getD_eq_getElem?_getD, List.getD_eq_getElem?_getD, List.getElem?_set]
  by_cases e : i = j
  · subst e; simp [h]
  · rw [if_neg e, if_neg (fun x => e x.symm)]
theorem gt_tab (g : Nat → Nat) (i : Nat) (h : i < 25) : gt (tab g) i = g i := by
  unfold gt tab
  rw [List.getD_eq_getElem?_getD, List.getElem?_map, List.getElem?_range h]; rfl
theorem gt_ge (ws : List Nat) (i : Nat) (h : ws.length ≤ i) : gt ws i = 0 := by
  unfold gt
  rw [List.getD_eq_getElem?_getD, List.getElem?_eq_none h]; rfl
theorem tab_len (g : Nat → Nat) : (tab g).length = 25 := by simp [tab]
theorem ok_tab (g : Nat → Nat) (h : ∀ i, i < 25 → g i < 18446744073709551616) : Ok (tab g) := by
  refine ⟨tab_len g, fun i => ?_⟩
  by_cases hi : i < 25
  · rw [gt_tab g i hi]; exact h i hi
  · rw [gt_ge _ _ (by rw [tab_len]; omega)]; omega
theorem ok_set {ws : List Nat} (h : Ok ws) (i v : Nat) (hi : i < 25) (hv : v < 18446744073709551616) : Ok (ws.set i v) := by
  refine ⟨by simp [h.1], fun j => ?_⟩
  rw [gt_set ws i j v (by rw [h.1]; exact hi)]
  split
  · exact hv
  · exact h.2 j
theorem ext25 {a b : List Nat} (ha : a.length = 25) (hb : b.length = 25) (h : ∀ i, i < 25 → gt a i = gt b i) : a = b := by
  apply List.ext_getElem (by rw [ha, hb])
  intro i h1 h2
  have := h i (by omega)
  unfold gt at this
  rwa [List.getD_eq_getElem?_getD, List.getD_eq_getElem?_getD, List.getElem?_eq_getElem h1, List.getElem?_eq_getElem h2] at this

theorem xor_lt {a b : Nat} (ha : a < 18446744073709551616) (hb : b < 18446744073709551616) : a ^^^ b < 18446744073709551616 :=
  Nat.xor_lt_two_pow (n := 64) ha hb
theorem or_lt {a b : Nat} (ha : a < 18446744073709551616) (hb : b < 18446744073709551616) : a ||| b < 18446744073709551616 :=
  Nat.or_lt_two_pow (n := 64) ha hb
theorem and_lt {a b : Nat} (hb : b < 18446744073709551616) : a &&& b < 18446744073709551616 :=
  Nat.and_lt_two_pow (n := 64) a hb

def rotl (x k : Nat) : Nat := (x * 2 ^ k % 18446744073709551616) ||| (x / 2 ^ (64 - k))
theorem rotl_lt (x k : Nat) (hx : x < 18446744073709551616) : rotl x k < 18446744073709551616 :=
  or_lt (Nat.mod_lt _ (by omega)) (Nat.lt_of_le_of_lt (Nat.div_le_self _ _) hx)
def notw (x : Nat) : Nat := 18446744073709551615 - x
theorem notw_lt (x : Nat) : notw x < 18446744073709551616 := by unfold notw; omega

def col (ws : List Nat) (x : Nat) : Nat := (((gt ws x ^^^ gt ws (x + 5)) ^^^ gt ws (x + 10)) ^^^ gt ws (x + 15)) ^^^ gt ws (x + 20)
theorem col_lt {ws : List Nat} (h : Ok ws) (x : Nat) : col ws x < 18446744073709551616 :=
  xor_lt (xor_lt (xor_lt (xor_lt (h.2 _) (h.2 _)) (h.2 _)) (h.2 _)) (h.2 _)
def dcol (ws : List Nat) (x : Nat) : Nat := col ws ((x + 4) % 5) ^^^ rotl (col ws ((x + 1) % 5)) 1
theorem dcol_lt {ws : List Nat} (h : Ok ws) (x : Nat) : dcol ws x < 18446744073709551616 := xor_lt (col_lt h _) (rotl_lt _ _ (col_lt h _))
def spreadTo (ws : List Nat) (k : Nat) : List Nat := tab fun i => if i % 5 < k then gt ws i ^^^ dcol ws (i % 5) else gt ws i
def spread (ws : List Nat) : List Nat := tab fun i => gt ws i ^^^ dcol ws (i % 5)
theorem ok_spreadTo {ws : List Nat} (h : Ok ws) (k : Nat) : Ok (spreadTo ws k) := by
  refine ok_tab _ fun i _ => ?_
  split
  · exact xor_lt (h.2 _) (dcol_lt h _)
  · exact h.2 _
theorem ok_spread {ws : List Nat} (h : Ok ws) : Ok (spread ws) := ok_tab _ fun i _ => xor_lt (h.2 _) (dcol_lt h _)
theorem spreadTo_five (ws : List Nat) : spreadTo ws 5 = spread ws := by
  unfold spreadTo spread tab
  apply List.map_congr_left
  intro i _
  rw [if_pos (Nat.mod_lt _ (by omega))]
theorem spreadTo_zero {ws : List Nat} (h : Ok ws) : spreadTo ws 0 = ws := by
  refine ext25 (tab_len _) h.1 fun i hi => ?_
  unfold spreadTo
  rw [gt_tab _ _ hi, if_neg (by omega)]
/-- the five stores of a column -/
theorem spreadTo_succ {ws : List Nat} (k : Nat) (hk : k < 5) :
    (((((spreadTo ws k).set k (gt ws k ^^^ dcol ws k)).set (k + 5) (gt ws (k + 5) ^^^ dcol ws k)).set (k + 10) (gt ws (k + 10) ^^^ dcol ws k)).set (k + 15) (gt ws (k + 15) ^^^ dcol ws k)).set (k + 20) (gt ws (k + 20) ^^^ dcol ws k) = spreadTo ws (k + 1) := by
  have hl : (spreadTo ws k).length = 25 := tab_len _
  refine ext25 (by simp [hl]) (tab_len _) fun i hi => ?_
  rw [gt_set _ _ _ _ (by simp [hl]; omega), gt_set _ _ _ _ (by simp [hl]; omega), gt_set _ _ _ _ (by simp [hl]; omega), gt_set _ _ _ _ (by simp [hl]; omega), gt_set _ _ _ _ (by omega)]
  unfold spreadTo
  rw [gt_tab _ _ hi, gt_tab _ _ hi]
  by_cases h : i % 5 = k
  · rw [if_pos (show i % 5 < k + 1 by omega), h]
    have : i = k ∨ i = k + 5 ∨ i = k + 10 ∨ i = k + 15 ∨ i = k + 20 := by omega
    rcases this with e | e | e | e | e <;> subst e <;> simp
  · rw [if_neg (by omega), if_neg (by omega), if_neg (by omega), if_neg (by omega), if_neg (by omega)]
    by_cases h2 : i % 5 < k
    · rw [if_pos h2, if_pos (by omega)]
    · rw [if_neg h2, if_neg (by omega)]
theorem gt_spreadTo {ws : List Nat} (k i : Nat) (hi : i < 25) (h : k ≤ i % 5) : gt (spreadTo ws k) i = gt ws i := by
  unfold spreadTo; rw [gt_tab _ _ hi, if_neg (by omega)]

def turnsT : List Nat := [0, 1, 62, 28, 27, 36, 44, 6, 55, 20, 3, 10, 43, 25, 39, 41, 45, 15, 21, 8, 18, 2, 61, 56, 14]
def placesT : List Nat := [0, 10, 20, 5, 15, 16, 1, 11, 21, 6, 7, 17, 2, 12, 22, 23, 8, 18, 3, 13, 14, 24, 9, 19, 4]
def roundsT : List Nat := [1, 32898, 9223372036854808714, 9223372039002292224, 32907, 2147483649, 9223372039002292353, 9223372036854808585, 138, 136, 2147516425, 2147483658, 2147516555, 9223372036854775947, 9223372036854808713, 9223372036854808579, 9223372036854808578, 9223372036854775936, 32778, 9223372039002259466, 9223372039002292353, 9223372036854808704, 2147483649, 9223372039002292232]
theorem places_lt (i : Nat) (h : i < 25) : gt placesT i < 25 := (by decide : ∀ i : Fin 25, gt placesT i.1 < 25) ⟨i, h⟩
theorem turns_lt (i : Nat) (h : i < 25) : gt turnsT i < 64 := (by decide : ∀ i : Fin 25, gt turnsT i.1 < 64) ⟨i, h⟩
theorem rounds_lt (i : Nat) (h : i < 24) : gt roundsT i < 18446744073709551616 := (by decide : ∀ i : Fin 24, gt roundsT i.1 < 18446744073709551616) ⟨i, h⟩

def zeros : List Nat := tab fun _ => 0
theorem ok_zeros : Ok zeros := ok_tab _ fun _ _ => by omega
def movedTo (ws : List Nat) : Nat → List Nat
  | 0 => zeros
  | n + 1 => (movedTo ws n).set (gt placesT n) (rotl (gt ws n) (gt turnsT n))
theorem ok_movedTo {ws : List Nat} (h : Ok ws) : ∀ n, n ≤ 25 → Ok (movedTo ws n)
  | 0, _ => ok_zeros
  | n + 1, hn => ok_set (ok_movedTo h n (by omega)) _ _ (places_lt n (by omega)) (rotl_lt _ _ (h.2 _))
def moved (ws : List Nat) : List Nat := movedTo ws 25

def joinw (b : List Nat) (i : Nat) : Nat := gt b i ^^^ (notw (gt b (i / 5 * 5 + (i % 5 + 1) % 5)) &&& gt b (i / 5 * 5 + (i % 5 + 2) % 5))
theorem joinw_lt {b : List Nat} (h : Ok b) (i : Nat) : joinw b i < 18446744073709551616 := xor_lt (h.2 _) (and_lt (h.2 _))
def joinTo (ws b : List Nat) (k : Nat) : List Nat := tab fun i => if i < k then joinw b i else gt ws i
def join (b : List Nat) : List Nat := tab (joinw b)
theorem ok_joinTo {ws b : List Nat} (h : Ok ws) (hb : Ok b) (k : Nat) : Ok (joinTo ws b k) := by
  refine ok_tab _ fun i _ => ?_
  split
  · exact joinw_lt hb _
  · exact h.2 _
theorem ok_join {b : List Nat} (hb : Ok b) : Ok (join b) := ok_tab _ fun i _ => joinw_lt hb i
theorem joinTo_zero {ws b : List Nat} (h : Ok ws) : joinTo ws b 0 = ws := by
  refine ext25 (tab_len _) h.1 fun i hi => ?_
  unfold joinTo; rw [gt_tab _ _ hi, if_neg (by omega)]
theorem joinTo_all (ws b : List Nat) : joinTo ws b 25 = join b := by
  unfold joinTo join tab
  apply List.map_congr_left
  intro i hi
  rw [if_pos (by simpa using hi)]
theorem joinTo_succ (ws b : List Nat) (k : Nat) (hk : k < 25) : (joinTo ws b k).set k (joinw b k) = joinTo ws b (k + 1) := by
  refine ext25 (by simp [joinTo, tab]) (tab_len _) fun i hi => ?_
  rw [gt_set _ _ _ _ (by rw [joinTo, tab_len]; exact hk)]
  unfold joinTo
  rw [gt_tab _ _ hi, gt_tab _ _ hi]
  by_cases e : i = k
  · subst e; simp
  · rw [if_neg e]
    by_cases h : i < k
    · rw [if_pos h, if_pos (by omega)]
    · rw [if_neg h, if_neg (by omega)]

def round (ws : List Nat) (c : Nat) : List Nat := (join (moved (spread ws))).set 0 (gt (join (moved (spread ws))) 0 ^^^ c)
theorem ok_round {ws : List Nat} (h : Ok ws) (c : Nat) (hc : c < 18446744073709551616) : Ok (round ws c) :=
  ok_set (ok_join (ok_movedTo (ok_spread h) 25 (Nat.le_refl _))) _ _ (by omega) (xor_lt ((ok_join (ok_movedTo (ok_spread h) 25 (Nat.le_refl _))).2 _) hc)
def changeTo (ws : List Nat) : Nat → List Nat
  | 0 => ws
  | n + 1 => round (changeTo ws n) (gt roundsT n)
theorem ok_changeTo {ws : List Nat} (h : Ok ws) : ∀ n, n ≤ 24 → Ok (changeTo ws n)
  | 0, _ => h
  | n + 1, hn => ok_round (ok_changeTo h n (by omega)) _ (rounds_lt n (by omega))
def change (ws : List Nat) : List Nat := changeTo ws 24
theorem ok_change {ws : List Nat} (h : Ok ws) : Ok (change ws) := ok_changeTo h 24 (Nat.le_refl _)

/-- a byte laid at a place of the state -/
def layw (ws : List Nat) (i v : Nat) : Nat := gt ws (i / 8) ^^^ (v * 2 ^ (8 * (i % 8)) % 18446744073709551616)
def lay (ws : List Nat) (i v : Nat) : List Nat := ws.set (i / 8) (layw ws i v)
theorem ok_lay {ws : List Nat} (h : Ok ws) (i v : Nat) (hi : i < 200) : Ok (lay ws i v) :=
  ok_set h _ _ (by omega) (xor_lt (h.2 _) (Nat.mod_lt _ (by omega)))
def byteAt (ws : List Nat) (i : Nat) : Nat := gt ws (i / 8) / 2 ^ (8 * (i % 8)) % 256
theorem byteAt_lt (ws : List Nat) (i : Nat) : byteAt ws i < 256 := Nat.mod_lt _ (by omega)

end Go.Proofs.YtfhibjpkbbbfpaaDoor.Kec

namespace Go.Proofs.YtfhibjpkbbbfpaaDoor.Kec
set_option linter.all false
open Go.RowKit

def put (f : Nat → Value) (o : Nat) (ws : List Nat) : Nat → Value := fun j => if o ≤ j ∧ j < o + 25 then .int .u64 (gt ws (j - o) : Nat) else f j
theorem put_in (f : Nat → Value) (o : Nat) (ws : List Nat) (i : Nat) (h : i < 25) : put f o ws (o + i) = .int .u64 (gt ws i : Nat) := by
  unfold put
  rw [if_pos ⟨by omega, by omega⟩]; simp
theorem put_out (f : Nat → Value) (o : Nat) (ws : List Nat) (j : Nat) (h : j < o ∨ o + 25 ≤ j) : put f o ws j = f j := by
  unfold put
  rw [if_neg (by omega)]
/-- block b is a row of n cells whose words from o on are ws -/
def St (w : World) (b : Nat) (t : TypeId) (n : Nat) (f : Nat → Value) (o : Nat) (ws : List Nat) : Prop := o + 25 ≤ n ∧ w.rowIs b t n (put f o ws)
section
variable {w w' : World} {b n o : Nat} {t : TypeId} {f : Nat → Value} {ws : List Nat}
theorem St.cell (h : St w b t n f o ws) (i : Nat) (hi : i < 25) : w.cell? ⟨b, o + i, none⟩ = some (.int .u64 (gt ws i : Nat)) := by
  have h1 := h.1
  rw [h.2.cell (by omega), put_in _ _ _ _ hi]
theorem St.frozen (h : St w b t n f o ws) (i : Nat) : w.frozen? ⟨b, i, none⟩ = false := h.2.frozen i
theorem St.lt (h : St w b t n f o ws) : b < w.heap.size := h.2.lt
theorem St.set (h : St w b t n f o ws) (hl : ws.length = 25) (i v : Nat) (hi : i < 25) : St (w.setCell ⟨b, o + i, none⟩ (.int .u64 (v : Nat))) b t n f o (ws.set i v) := by
  refine ⟨h.1, (h.2.set (o + i) (.int .u64 (v : Nat))).congr fun j _ => ?_⟩
  unfold put
  by_cases e : j = o + i
  · subst e
    rw [if_pos rfl, if_pos ⟨by omega, by omega⟩, gt_set _ _ _ _ (by omega)]; simp
  · rw [if_neg e]
    by_cases hj : o ≤ j ∧ j < o + 25
    · rw [if_pos hj, if_pos hj, gt_set _ _ _ _ (by omega), if_neg (by omega)]
    · rw [if_neg hj, if_neg hj]
theorem St.drew (h : St w b t n f o ws) : St w.drew b t n f o ws := h
theorem St.drewN (h : St w b t n f o ws) (k : Nat) : St (w.drewN k) b t n f o ws := h
theorem St.alloc (h : St w b t n f o ws) (x : Obj) : St (w.alloc x) b t n f o ws := ⟨h.1, h.2.alloc x⟩
theorem St.far (h : St w b t n f o ws) {a : Addr} (ha : b ≠ a.block) (v : Value) : St (w.setCell a v) b t n f o ws := ⟨h.1, h.2.setOther ha v⟩
theorem St.of_block (h : St w b t n f o ws) (e : w'.heap[b]? = w.heap[b]?) : St w' b t n f o ws := ⟨h.1, h.2.of_block e⟩
theorem St.grown {row : Option Nat} (h : St w b t n f o ws) (hg : w.grownBy w' row) (hne : some b ≠ row) : St w' b t n f o ws := h.of_block (hg.block b h.lt hne)
end

theorem rowIs_drewN {w : World} {b : Nat} {t : TypeId} {n : Nat} {f : Nat → Value} (h : w.rowIs b t n f) (k : Nat) : (w.drewN k).rowIs b t n f := h
/-- only block b, and what is new, has turned -/
theorem only_drew {a w : World} {row : Option Nat} (h : a.grownBy w row) : a.grownBy w.drew row := ⟨h.os, h.tape, h.output, h.size, h.block⟩
theorem only_drewN {a w : World} {row : Option Nat} (h : a.grownBy w row) (k : Nat) : a.grownBy (w.drewN k) row := ⟨h.os, h.tape, h.output, h.size, h.block⟩
theorem only_alloc {a w : World} {row : Option Nat} (h : a.grownBy w row) (x : Obj) : a.grownBy (w.alloc x) row :=
  ⟨h.os, h.tape, h.output, Nat.le_trans h.size (by simp), fun i hi hne => (Below.heap_alloc w x i (Nat.lt_of_lt_of_le hi h.size)).trans (h.block i hi hne)⟩
theorem only_set {a w : World} {g : Nat} (h : a.grownBy w (some g)) {p : Addr} (hp : p.block = g ∨ a.heap.size ≤ p.block) (u : Value) : a.grownBy (w.setCell p u) (some g) :=
  ⟨h.os, h.tape, h.output, by simpa [World.setCell] using h.size, fun i hi hne => (Below.heap_setCell w p u i (by
    rintro rfl
    rcases hp with hp | hp
    · exact hne (by rw [hp])
    · omega)).trans (h.block i hi hne)⟩
/-- what follows turns block g' alone, which is new since a, or g -/
theorem only_then {a w c : World} {g g' : Nat} (h : a.grownBy w (some g)) (k : w.grownBy c (some g')) (hg : g' = g ∨ a.heap.size ≤ g') : a.grownBy c (some g) :=
  ⟨k.os.trans h.os, k.tape.trans h.tape, k.output.trans h.output, Nat.le_trans h.size k.size, fun i hi hne =>
    (k.block i (Nat.lt_of_lt_of_le hi h.size) (by
      intro e
      injection e with e
      rcases hg with hg | hg
      · exact hne (by rw [e, hg])
      · omega)).trans (h.block i hi hne)⟩

theorem u64_not (x : Nat) (hx : x < 18446744073709551616) : bits .xor .u64 (18446744073709551615 : Int) (x : Int) = (notw x : Nat) := by
  have h : (18446744073709551615 : Int) = ((18446744073709551615 : Nat) : Int) := rfl
  rw [h, u64_xor_nat _ _ (by omega) hx]
  unfold notw
  have e : 18446744073709551615 ^^^ x = 18446744073709551615 - x := by
    apply Nat.eq_of_testBit_eq
    intro i
    have := Nat.testBit_two_pow_sub_succ (n := 64) (x := x) hx i
    rw [Nat.testBit_xor]
    have h2 : (18446744073709551615 : Nat).testBit i = decide (i < 64) := by
      have := Nat.testBit_two_pow_sub_one 64 i
      simpa using this
    rw [h2]
    have h3 : 18446744073709551615 - x = 2 ^ 64 - (x + 1) := by omega
    rw [h3, this]
    by_cases hi : i < 64
    · simp [hi]
    · have : x.testBit i = false := Nat.testBit_lt_two_pow (Nat.lt_of_lt_of_le hx (by
        have h64 : (18446744073709551616 : Nat) = 2 ^ 64 := rfl
        rw [h64]
        exact Nat.pow_le_pow_right (by omega) (by omega)))
      simp [hi, this]
  rw [e]

end Go.Proofs.YtfhibjpkbbbfpaaDoor.Kec

namespace Go.Proofs.YtfhibjpkbbbfpaaDoor.Kec
set_option linter.all false
open Go.RowKit

theorem and63 (k : Nat) (h : k < 64) : bits .and .u64 (k : Int) 63 = (k : Int) := by
  have := u64_and_nat k 63 (by omega) (by omega)
  have e : k &&& 63 = k := by rw [nat_mask6]; omega
  rw [e] at this
  exact this
theorem wrapmul (x k : Nat) : IntKind.u64.wrap ((x : Int) * 2 ^ k) = ((x * 2 ^ k % 18446744073709551616 : Nat) : Int) := by
  rw [IntKind.wrap_u64]; simp
theorem rotl_bits (x k : Nat) (hx : x < 18446744073709551616) : bits .or .u64 (IntKind.u64.wrap ((x : Int) * 2 ^ k)) ((x : Int) / 2 ^ (64 - k)) = ((rotl x k : Nat) : Int) := by
  rw [wrapmul]
  have h : ((x : Int) / 2 ^ (64 - k)) = ((x / 2 ^ (64 - k) : Nat) : Int) := by simp
  rw [h, u64_or_nat _ _ (Nat.mod_lt _ (by omega)) (Nat.lt_of_le_of_lt (Nat.div_le_self _ _) hx)]
  rfl
theorem byteAt_bits (ws : List Nat) (i : Nat) : ((gt ws (i / 8) : Nat) : Int) / 2 ^ (8 * (i % 8)) % 256 = ((byteAt ws i : Nat) : Int) := by
  unfold byteAt; simp
theorem layw_bits (ws : List Nat) (i v : Nat) (hO : Ok ws) : bits .xor .u64 ((gt ws (i / 8) : Nat) : Int) (IntKind.u64.wrap ((v : Int) * 2 ^ (8 * (i % 8)))) = ((layw ws i v : Nat) : Int) := by
  rw [wrapmul, u64_xor_nat _ _ (hO.2 _) (Nat.mod_lt _ (by omega))]
  rfl
theorem rotl_zero (x : Nat) (hx : x < 18446744073709551616) : rotl x 0 = x := by
  unfold rotl
  have h : x / 2 ^ (64 - 0) = 0 := Nat.div_eq_of_lt hx
  rw [h, Nat.or_zero]
  simp only [Nat.pow_zero, Nat.mul_one]
  omega

set_option maxHeartbeats 400000 in
theorem rot_any (x k : Nat) (w : World) (hx : x < 18446744073709551616) (hk : k < 64) :
    Calls Tryd.prog 80 #[.int .u64 x, .int .i64 k] w fun e w' => e = .returned (.int .u64 (rotl x k : Nat)) ∧ w = w' := by
  have h63 := and63 k hk
  have hr := rotl_bits x k hx
  go_enter Tryd.func80, Tryd.ntmps80
  go_wp2
  go_ret
  exact ⟨rfl, rfl⟩

set_option maxHeartbeats 400000 in
theorem add_any (b t n o i v : Nat) (f : Nat → Value) (ws : List Nat) (w : World) (hi : i < 200) (hv : v < 256) (hS : St w b t n f o ws) (hO : Ok ws) :
    Calls Tryd.prog 56 #[.pointer (some ⟨b, o, none⟩), .int .i64 i, .int .u8 v] w fun e w' => e = .returned (.tuple #[]) ∧ St w' b t n f o (lay ws i v) ∧ w.grownBy w' (some b) := by
  have hc := hS.cell (i / 8) (by omega)
  have hf := hS.frozen (o + i / 8)
  have hxr := layw_bits ws i v hO
  have HS := Lib.hid hS; clear hS
  have HO := Lib.hid hO; clear hO
  go_enter Tryd.func56, Tryd.ntmps56
  go_wp2
  go_region
  go_end0
  exact ⟨rfl, (St.set HS.out HO.out.1 (i / 8) (layw ws i v) (by omega)).drew, only_drew (only_set (World.grownBy.refl _ _) (.inl rfl) _)⟩

set_option maxHeartbeats 400000 in
theorem byteAt_any (b t n o i : Nat) (f : Nat → Value) (ws : List Nat) (w : World) (hi : i < 200) (hS : St w b t n f o ws) :
    Calls Tryd.prog 59 #[.pointer (some ⟨b, o, none⟩), .int .i64 i] w fun e w' => e = .returned (.int .u8 (byteAt ws i : Nat)) ∧ w = w' := by
  have hc := hS.cell (i / 8) (by omega)
  have hb := byteAt_bits ws i
  clear hS
  go_enter Tryd.func59, Tryd.ntmps59
  go_wp2
  go_ret
  exact ⟨rfl, rfl⟩

end Go.Proofs.YtfhibjpkbbbfpaaDoor.Kec

namespace Go.Proofs.YtfhibjpkbbbfpaaDoor.Kec
set_option linter.all false
open Go.RowKit

theorem col_bits {ws : List Nat} (h : Ok ws) (x : Nat) :
    bits .xor .u64 (bits .xor .u64 (bits .xor .u64 (bits .xor .u64 ((gt ws x : Nat) : Int) ((gt ws (x + 5) : Nat) : Int)) ((gt ws (x + 10) : Nat) : Int)) ((gt ws (x + 15) : Nat) : Int)) ((gt ws (x + 20) : Nat) : Int) = ((col ws x : Nat) : Int) := by
  rw [u64_xor_nat _ _ (h.2 _) (h.2 _), u64_xor_nat _ _ (xor_lt (h.2 _) (h.2 _)) (h.2 _), u64_xor_nat _ _ (xor_lt (xor_lt (h.2 _) (h.2 _)) (h.2 _)) (h.2 _), u64_xor_nat _ _ (xor_lt (xor_lt (xor_lt (h.2 _) (h.2 _)) (h.2 _)) (h.2 _)) (h.2 _)]
  rfl
theorem dcol_bits {ws : List Nat} (h : Ok ws) (x : Nat) : bits .xor .u64 ((col ws ((x + 4) % 5) : Nat) : Int) ((rotl (col ws ((x + 1) % 5)) 1 : Nat) : Int) = ((dcol ws x : Nat) : Int) := by
  rw [u64_xor_nat _ _ (col_lt h _) (rotl_lt _ _ (col_lt h _))]; rfl
def mix (a d : Nat) : Nat := a ^^^ d
theorem mix_bits {a d : Nat} (h : a < 18446744073709551616) (h' : d < 18446744073709551616) : bits .xor .u64 (a : Int) (d : Int) = ((mix a d : Nat) : Int) := by
  rw [u64_xor_nat _ _ h h']; rfl

theorem rot_same (x k : Nat) (w : World) (hx : x < 18446744073709551616) (hk : k < 64) :
    Calls Tryd.prog 80 #[.int .u64 x, .int .i64 k] w fun e w' => e = .returned (.int .u64 (rotl x k : Nat)) ∧ w' = w :=
  (rot_any x k w hx hk).mono fun _ _ ⟨h, h'⟩ => ⟨h, h'.symm⟩
theorem rot_one (x : Nat) (w : World) (hx : x < 18446744073709551616) :
    Calls Tryd.prog 80 #[.int .u64 x, .int .i64 1] w fun e w' => e = .returned (.int .u64 (rotl x 1 : Nat)) ∧ w' = w :=
  rot_same x 1 w hx (by omega)
def colRow (ws : List Nat) (k : Nat) : Nat → Value := fun x => if x < k then .int .u64 (col ws x : Nat) else .int .u64 0

abbrev five (w : World) (b o j : Nat) (v0 v1 v2 v3 v4 : Value) : World :=
  ((((w.setCell ⟨b, o + j, none⟩ v0).setCell ⟨b, o + (j + 5), none⟩ v1).setCell ⟨b, o + (j + 10), none⟩ v2).setCell ⟨b, o + (j + 15), none⟩ v3).setCell ⟨b, o + (j + 20), none⟩ v4
theorem St.five {w : World} {b t n o j : Nat} {f : Nat → Value} {ws : List Nat} (h : St w b t n f o (spreadTo ws j)) (hj : j < 5) :
    St (Kec.five w b o j (.int .u64 (mix (gt ws j) (dcol ws j) : Nat)) (.int .u64 (mix (gt ws (j + 5)) (dcol ws j) : Nat)) (.int .u64 (mix (gt ws (j + 10)) (dcol ws j) : Nat)) (.int .u64 (mix (gt ws (j + 15)) (dcol ws j) : Nat)) (.int .u64 (mix (gt ws (j + 20)) (dcol ws j) : Nat))) b t n f o (spreadTo ws (j + 1)) := by
  have hl : (spreadTo ws j).length = 25 := tab_len _
  rw [← spreadTo_succ j hj]
  exact ((((h.set hl j _ (by omega)).set (by simp [hl]) (j + 5) _ (by omega)).set (by simp [hl]) (j + 10) _ (by omega)).set (by simp [hl]) (j + 15) _ (by omega)).set (by simp [hl]) (j + 20) _ (by omega)
theorem five_far {w : World} {g t n : Nat} {f : Nat → Value} (h : w.rowIs g t n f) {b : Nat} (hb : g ≠ b) (o j : Nat) (v0 v1 v2 v3 v4 : Value) : (five w b o j v0 v1 v2 v3 v4).rowIs g t n f :=
  ((((h.setOther (a := ⟨b, o + j, none⟩) hb v0).setOther (a := ⟨b, o + (j + 5), none⟩) hb v1).setOther (a := ⟨b, o + (j + 10), none⟩) hb v2).setOther (a := ⟨b, o + (j + 15), none⟩) hb v3).setOther (a := ⟨b, o + (j + 20), none⟩) hb v4
theorem five_only {a w : World} {b : Nat} (h : a.grownBy w (some b)) (o j : Nat) (v0 v1 v2 v3 v4 : Value) : a.grownBy (five w b o j v0 v1 v2 v3 v4) (some b) :=
  only_set (only_set (only_set (only_set (only_set h (.inl rfl) _) (.inl rfl) _) (.inl rfl) _) (.inl rfl) _) (.inl rfl) _

set_option maxHeartbeats 2000000 in
set_option maxRecDepth 100000 in
theorem spread_any (b t n o : Nat) (f : Nat → Value) (ws : List Nat) (w : World) (hS : St w b t n f o ws) (hO : Ok ws) :
    Calls Tryd.prog 74 #[.pointer (some ⟨b, o, none⟩)] w fun e w' => e = .returned (.tuple #[]) ∧ St w' b t n f o (spread ws) ∧ w.grownBy w' (some b) := by
  have hlt := hS.lt
  have HS := Lib.hid hS; clear hS
  have HO := Lib.hid hO; clear hO
  go_enter Tryd.func74, Tryd.ntmps74
  go_wp2
  go_loopw [6] (fun i W => ∃ k : Nat, k ≤ 5 ∧ i = .int .i64 k ∧ Hid (St W b t n f o ws) ∧ Hid (W.rowIs w.heap.size 82 5 (colRow ws k)) ∧ Hid (w.grownBy W (some b))) (fun i _ => 5 - (intOf i).toNat)
  case atStart =>
    refine ⟨0, by omega, rfl, Lib.hid (HS.out.alloc _), Lib.hid ?_, Lib.hid (World.grownBy_alloc _ _ _)⟩
    refine (World.rowIs_alloc w _ 82 (colRow ws 0) ?_)
    intro i hi
    have : i < 5 := hi
    unfold colRow
    rw [if_neg (by omega)]
    match i, this with
    | 0, _ | 1, _ | 2, _ | 3, _ | 4, _ => rfl
  case round =>
    obtain ⟨k, hk, rfl, HS1, HR1, HG1⟩ := hrel
    by_cases hlt5 : k < 5
    · have c0 := HS1.out.cell k (by omega)
      have c1 := HS1.out.cell (k + 5) (by omega)
      have c2 := HS1.out.cell (k + 10) (by omega)
      have c3 := HS1.out.cell (k + 15) (by omega)
      have c4 := HS1.out.cell (k + 20) (by omega)
      have d0 := HR1.out.cell (i := k) hlt5
      have d1 := HR1.out.frozen k
      have hb := col_bits HO.out k
      go_wp2
      go_region
      go_wp2
      go_roundw
      case rel =>
        refine ⟨k + 1, by omega, by go_num, Lib.hid (HS1.out.far (by show b ≠ w.heap.size; omega) _).drew, Lib.hid ?_, Lib.hid (only_drew (only_set HG1.out (.inr (Nat.le_refl _)) _))⟩
        refine ((HR1.out.set k (.int .u64 (col ws k : Nat))).drew.congr ?_)
        intro i _
        unfold colRow
        by_cases e : i = k
        · subst e; simp
        · by_cases h : i < k
          · simp [e, h, show i < k + 1 by omega]
          · simp [e, h, show ¬ i < k + 1 by omega]
      case measure => simp [intOf]; omega
    · obtain rfl : k = 5 := by omega
      go_wp2
      go_loopw [45] (fun i W => ∃ j : Nat, j ≤ 5 ∧ i = .int .i64 j ∧ Hid (St W b t n f o (spreadTo ws j)) ∧ Hid (W.rowIs w.heap.size 82 5 (colRow ws 5)) ∧ Hid (w.grownBy W (some b))) (fun i _ => 5 - (intOf i).toNat)
      case atStart => exact ⟨0, by omega, rfl, Lib.hid (by rw [spreadTo_zero HO.out]; exact HS1.out), HR1, HG1⟩
      case round =>
        obtain ⟨j, hj, rfl, HS2, HR2, HG2⟩ := hrel
        by_cases hlt5 : j < 5
        · have c0 := HS2.out.cell j (by omega)
          have c1 := HS2.out.cell (j + 5) (by omega)
          have c2 := HS2.out.cell (j + 10) (by omega)
          have c3 := HS2.out.cell (j + 15) (by omega)
          have c4 := HS2.out.cell (j + 20) (by omega)
          rw [gt_spreadTo _ _ (by omega) (by omega)] at c0 c1 c2 c3 c4
          have f0 := HS2.out.frozen (o + j)
          have f1 := HS2.out.frozen (o + (j + 5))
          have f2 := HS2.out.frozen (o + (j + 10))
          have f3 := HS2.out.frozen (o + (j + 15))
          have f4 := HS2.out.frozen (o + (j + 20))
          have d0 := HR2.out.cell (i := (j + 4) % 5) (by omega)
          have d1 := HR2.out.cell (i := (j + 1) % 5) (by omega)
          rw [colRow, if_pos (by omega)] at d0 d1
          have hb := dcol_bits HO.out j
          have m0 := mix_bits (HO.out.2 j) (dcol_lt HO.out j)
          have m1 := mix_bits (HO.out.2 (j + 5)) (dcol_lt HO.out j)
          have m2 := mix_bits (HO.out.2 (j + 10)) (dcol_lt HO.out j)
          have m3 := mix_bits (HO.out.2 (j + 15)) (dcol_lt HO.out j)
          have m4 := mix_bits (HO.out.2 (j + 20)) (dcol_lt HO.out j)
          go_wp2
          go_quiet ((go_at_call 80; exact Calls.quiet_of_same (rot_one _ _ (col_lt HO.out _))))
          go_wp2
          go_region
          go_wp2
          go_region
          go_wp2
          go_region
          go_wp2
          go_region
          go_wp2
          go_region
          go_wp2
          go_roundw
          case rel =>
            exact ⟨j + 1, by omega, by go_num, Lib.hid ((HS2.out.drewN (nq + 1)).five hlt5).drew.drew.drew.drew, Lib.hid (five_far (rowIs_drewN HR2.out (nq + 1)) (Nat.ne_of_gt hlt) o j _ _ _ _ _).drew.drew.drew.drew,
              Lib.hid (only_drew (only_drew (only_drew (only_drew (five_only (only_drewN HG2.out (nq + 1)) o j _ _ _ _ _)))))⟩
          case measure => simp [intOf]; omega
        · obtain rfl : j = 5 := by omega
          go_wp2
          go_end0
          exact ⟨rfl, by rw [← spreadTo_five]; exact HS2.out, HG2.out⟩

end Go.Proofs.YtfhibjpkbbbfpaaDoor.Kec

namespace Go.Proofs.YtfhibjpkbbbfpaaDoor.Kec
set_option linter.all false
open Go.RowKit

/-- an element of an array value whose elements have one cell -/
theorem run_index_one {P : Program} (t e : TypeId) (n : Nat) (d : TypeDesc) (cs : Array Value) (kd : IntKind) (k : Nat) (v : Value) (ht : P.underlying t = some (.array n e)) (he : P.underlying e = some d)
    (hd : (match d with | .struct _ | .array _ _ => true | _ => false) = false) (hs : (P.info? e).map (·.size) = some 1) (hk : k < n) (hv : cs[k]? = some v) (w : World) :
    (Instr.index t (.agg cs) (.int kd (k : Int))).run P w = .ok v w := by
  have ha : ∀ w, (isAgg e).run P w = .ok false w := fun w => by
    unfold isAgg
    rw [Sem.run_bind, run_underlying he w]
    cases d <;> simp_all
  cases hq : P.info? e with
  | none => simp [hq] at hs
  | some i =>
    have hs1 : i.size = 1 := by simpa [hq] using hs
    simp [Instr.index, asIntOf, run_underlying ht, sizeOf, typeInfo, hq, hs1, part, ha, hv, hk]

/-- a table of numbers that lies whole in a block -/
def numsOf (k : IntKind) (l : List Nat) : Array Value := (l.map fun x => Value.int k ((x : Nat) : Int)).toArray
theorem numsOf_at (k : IntKind) (l : List Nat) (i : Nat) (h : i < l.length) : (numsOf k l)[i]? = some (.int k ((gt l i : Nat) : Int)) := by
  simp [numsOf, gt, List.getD_eq_getElem?_getD, h]
def TabAt (w : World) (g : Nat) (k : IntKind) (l : List Nat) : Prop := ∃ t fr, w.heap[g]? = some (.cells (numsOf k l) t fr)
theorem TabAt.cell {w : World} {g : Nat} {k : IntKind} {l : List Nat} (h : TabAt w g k l) (i : Nat) (hi : i < l.length) : w.cell? ⟨g, i, none⟩ = some (.int k ((gt l i : Nat) : Int)) := by
  obtain ⟨t, fr, h⟩ := h
  rw [cell_of_row w g i _ t fr h, numsOf_at k l i hi]
theorem TabAt.of_block {w w' : World} {g : Nat} {k : IntKind} {l : List Nat} (h : TabAt w g k l) (e : w'.heap[g]? = w.heap[g]?) : TabAt w' g k l := by
  obtain ⟨t, fr, h⟩ := h
  exact ⟨t, fr, e.trans h⟩
theorem TabAt.lt {w : World} {g : Nat} {k : IntKind} {l : List Nat} (h : TabAt w g k l) : g < w.heap.size := by
  obtain ⟨t, fr, h⟩ := h
  obtain ⟨hlt, _⟩ := Array.getElem?_eq_some_iff.1 h
  exact hlt
/-- the three tables of the package, as they lie -/
structure Tables (w : World) : Prop where
  big : 6 ≤ w.heap.size
  rounds : TabAt w 1 .u64 roundsT
  turns : TabAt w 4 .i64 turnsT
  places : TabAt w 3 .i64 placesT
theorem Tables.keep {w w' : World} (h : Tables w) (e : ∀ g, g < 6 → w'.heap[g]? = w.heap[g]?) : Tables w' :=
  ⟨(by have h5 := e 5 (by decide); rw [Array.getElem?_eq_getElem (h := h.big)] at h5; exact (Array.getElem?_eq_some_iff.1 h5).1), h.rounds.of_block (e _ (by decide)), h.turns.of_block (e _ (by decide)), h.places.of_block (e _ (by decide))⟩
theorem Tables.lt {w : World} (h : Tables w) : 6 ≤ w.heap.size := h.big
theorem Tables.grown {w w' : World} {b : Nat} (h : Tables w) (hg : w.grownBy w' (some b)) (hb : 6 ≤ b) : Tables w' :=
  h.keep fun g hlt => hg.block g (by have := h.lt; omega) (by intro e; injection e; omega)
theorem Tables.below {w w' : World} {B : Nat} (h : Tables w) (hg : Below B w w') (hb : 6 ≤ B) : Tables w' := h.keep fun g hlt => hg.block g (by omega)
theorem Tables.alloc {w : World} (h : Tables w) (o : Obj) : Tables (w.alloc o) := h.keep fun g hlt => Below.heap_alloc w o g (by have := h.lt; omega)
theorem Tables.drew {w : World} (h : Tables w) : Tables w.drew := h.keep fun _ _ => rfl
theorem Tables.drewN {w : World} (h : Tables w) (n : Nat) : Tables (w.drewN n) := h.keep fun _ _ => rfl
theorem Tables.set {w : World} (h : Tables w) {a : Addr} (ha : 6 ≤ a.block) (v : Value) : Tables (w.setCell a v) := h.keep fun g hlt => Below.heap_setCell w a v g (by omega)

def wordRow (ws : List Nat) : Nat → Value := fun i => .int .u64 ((gt ws i : Nat) : Int)
def words (ws : List Nat) : Array Value := numsOf .u64 ws

theorem heap_words {w : World} {g : Nat} {t : TypeId} {ws : List Nat} (h : w.rowIs g t 25 (wordRow ws)) (hl : ws.length = 25) : w.heap[g]? = some (.cells (words ws) t (0, 0)) := by
  obtain ⟨c, hc, hs, hi⟩ := h
  have e : c = words ws := by
    apply Array.ext_getElem?
    intro i
    by_cases h : i < 25
    · rw [hi i h, words, numsOf_at .u64 ws i (by omega)]; rfl
    · rw [Array.getElem?_eq_none (by omega), Array.getElem?_eq_none (by simp [words, numsOf]; omega)]
  rw [hc, e]
theorem words_size (ws : List Nat) : (words ws).size = ws.length := by simp [words, numsOf]
theorem words_one (ws : List Nat) : (words ws).all (·.oneCell') = true := by
  simp [words, numsOf, Value.oneCell']
theorem row_movedTo {w : World} {g : Nat} {ws : List Nat} {k : Nat} (h : w.rowIs g 76 25 (wordRow (movedTo ws k))) (hO : Ok ws) (hk : k < 25) :
    (w.setCell ⟨g, gt placesT k, none⟩ (.int .u64 ((rotl (gt ws k) (gt turnsT k) : Nat) : Int))).rowIs g 76 25 (wordRow (movedTo ws (k + 1))) := by
  refine (h.set (gt placesT k) _).congr fun i _ => ?_
  unfold wordRow
  rw [show movedTo ws (k + 1) = (movedTo ws k).set (gt placesT k) (rotl (gt ws k) (gt turnsT k)) from rfl, gt_set _ _ _ _ (by rw [(ok_movedTo hO k (by omega)).1]; exact places_lt k hk)]
  split <;> rfl

set_option maxHeartbeats 2000000 in
set_option maxRecDepth 100000 in
theorem turned_any (b t n o : Nat) (f : Nat → Value) (ws : List Nat) (w : World) (hS : St w b t n f o ws) (hO : Ok ws) (hT : Tables w) :
    Calls Tryd.prog 75 #[.pointer (some ⟨b, o, none⟩)] w fun e w' => e = .returned (.agg (words (moved ws))) ∧ Below w.heap.size w w' := by
  have hlt := hS.lt
  have h3 := hT.lt
  have HS := Lib.hid hS; clear hS
  have HO := Lib.hid hO; clear hO
  obtain ⟨tt, fr, hpl⟩ := ((hT.alloc (.cells (words zeros) 76)).alloc (.cells (words zeros) 76)).places
  have HT := Lib.hid hT; clear hT
  go_enter Tryd.func75, Tryd.ntmps75
  go_wp2_with (refine wpList_load_row rfl 108 _ rfl 3 rfl tt _ fr _ hpl Tryd.underlying108 rfl (by kernel_rfl) ?_)
  go_loopw [7] (fun i W => ∃ k : Nat, k ≤ 25 ∧ i = .int .i64 k ∧ Hid (St W b t n f o ws) ∧ Hid (Tables W) ∧ Hid (W.rowIs (w.heap.size + 1) 76 25 (wordRow (movedTo ws k))) ∧ Hid (W.rowIs w.heap.size 76 25 (wordRow zeros)) ∧ Hid (Below w.heap.size w W)) (fun i _ => 25 - (intOf i).toNat)
  case atStart =>
    have z : ∀ i, i < (words zeros).size → (words zeros)[i]? = some (wordRow zeros i) := fun i hi => numsOf_at .u64 zeros i (by simpa [words, numsOf] using hi)
    have r1 := World.rowIs_alloc w (words zeros) 76 (wordRow zeros) z
    have r2 := World.rowIs_alloc (w.alloc (.cells (words zeros) 76)) (words zeros) 76 (wordRow zeros) z
    have e : (w.alloc (.cells (words zeros) 76)).heap.size = w.heap.size + 1 := by simp
    rw [e] at r2
    exact ⟨0, by omega, rfl, Lib.hid ((HS.out.alloc _).alloc _), Lib.hid ((HT.out.alloc _).alloc _), Lib.hid r2, Lib.hid (r1.alloc _), Lib.hid (((Below.refl _ _).alloc (Nat.le_refl _) _).alloc (by simp) _)⟩
  case round =>
    obtain ⟨k, hk, rfl, HS1, HT1, HR1, HZ1, HB1⟩ := hrel
    by_cases hlt5 : k < 25
    · have c0 := HS1.out.cell k hlt5
      have c1 := HT1.out.turns.cell k hlt5
      have hp := places_lt k hlt5
      have ht := turns_lt k hlt5
      have d0 := HR1.out.cell (i := gt placesT k) hp
      have d1 := HR1.out.frozen (gt placesT k)
      have hix := run_index_one (P := Tryd.prog) 108 3 25 _ (numsOf .i64 placesT) .i64 k _ Tryd.underlying108 Tryd.underlying3 rfl (by kernel_rfl) hlt5 (numsOf_at .i64 placesT k hlt5)
      go_wp2
      refine wp_region_still_tail 10 (by kernel_rfl) (by kernel_rfl) ?_
      simp only [List.take_succ_cons, List.take_zero, List.drop_succ_cons, List.drop_zero]
      repeat still_step
      still_call (rot_same _ _ _ (HO.out.2 _) ht)
      refine wpStill_nil ?_
      change wpList _ _ _ _ _ wr.drew
      go_wp2
      go_roundw
      case rel =>
        exact ⟨k + 1, by omega, by go_num, Lib.hid (HS1.out.far (by show b ≠ w.heap.size + 1; omega) _).drew, Lib.hid (HT1.out.set (by show 6 ≤ w.heap.size + 1; omega) _).drew, Lib.hid (row_movedTo HR1.out HO.out hlt5).drew,
          Lib.hid (HZ1.out.setOther (by show w.heap.size ≠ w.heap.size + 1; omega) _).drew, Lib.hid (HB1.out.setCell (by show w.heap.size ≤ w.heap.size + 1; omega) _).drew⟩
      case measure => simp [intOf]; omega
    · obtain rfl : k = 25 := by omega
      have hl : (movedTo ws 25).length = 25 := (ok_movedTo HO.out 25 (Nat.le_refl _)).1
      have hm : moved ws = movedTo ws 25 := rfl
      generalize movedTo ws 25 = m at *
      have hc := heap_words HR1.out hl
      have hz := heap_words HZ1.out ok_zeros.1
      have hi : (Tryd.prog.info? 76).map (·.size) = some (words m).size := by rw [words_size, hl]; kernel_rfl
      have hzm : (words zeros).size = (words m).size := by rw [words_size, words_size, ok_zeros.1, hl]
      have HC := Lib.hid hc; have HZ := Lib.hid hz; have HZM := Lib.hid hzm; have HI := Lib.hid hi; have HM := Lib.hid hm; clear hc hz hl hi hzm hm
      go_wp2_with (first | (refine wpList_load_row rfl 76 (.tmp 3) rfl (w.heap.size + 1) rfl 76 (words m) (0, 0) _ HC.out Tryd.underlying76 rfl HI.out ?_) | (refine wpList_store_row rfl 76 (.tmp 2) (.tmp 23) rfl w.heap.size (words m) rfl rfl 76 (words zeros) HZ.out HI.out HZM.out (words_one _) ?_))
      refine bodyPost_ret (v := .agg (words m)) (results_cell_row (p := 2) (ty := 76) (by kernel_rfl) _ _ w.heap.size 76 (words m) (0, 0) _ rfl (setRow_heap _ _ _ _ _ _ HZ.out) Tryd.underlying76 rfl HI.out) rfl ⟨by rw [HM.out], below_setRow HB1.out (Nat.le_refl _) _⟩

end Go.Proofs.YtfhibjpkbbbfpaaDoor.Kec

namespace Go.Proofs.YtfhibjpkbbbfpaaDoor.Kec
set_option linter.all false
open Go.RowKit

theorem join_bits {m : List Nat} (h : Ok m) (i x y z : Nat) (hx : i = x) (hy : i / 5 * 5 + (i % 5 + 1) % 5 = y) (hz : i / 5 * 5 + (i % 5 + 2) % 5 = z) :
    bits .xor .u64 ((gt m x : Nat) : Int) (bits .and .u64 (bits .xor .u64 (if IntKind.u64.signed = true then -1 else IntKind.u64.max) ((gt m y : Nat) : Int)) ((gt m z : Nat) : Int)) = ((joinw m i : Nat) : Int) := by
  have e : (if IntKind.u64.signed = true then -1 else IntKind.u64.max) = (18446744073709551615 : Int) := by decide
  rw [e, u64_not _ (h.2 _), u64_and_nat _ _ (notw_lt _) (h.2 _), u64_xor_nat _ _ (h.2 _) (and_lt (h.2 _))]
  unfold joinw
  rw [hy, hz, hx]

abbrev fiveRow (w : World) (b o a : Nat) (v0 v1 v2 v3 v4 : Value) : World :=
  ((((w.setCell ⟨b, o + a, none⟩ v0).setCell ⟨b, o + (a + 1), none⟩ v1).setCell ⟨b, o + (a + 2), none⟩ v2).setCell ⟨b, o + (a + 3), none⟩ v3).setCell ⟨b, o + (a + 4), none⟩ v4
theorem St.fiveRow {w : World} {b t n o a : Nat} {f : Nat → Value} {ws m : List Nat} (h : St w b t n f o (joinTo ws m a)) (ha : a ≤ 20) :
    St (Kec.fiveRow w b o a (.int .u64 (joinw m a : Nat)) (.int .u64 (joinw m (a + 1) : Nat)) (.int .u64 (joinw m (a + 2) : Nat)) (.int .u64 (joinw m (a + 3) : Nat)) (.int .u64 (joinw m (a + 4) : Nat))) b t n f o (joinTo ws m (a + 5)) := by
  have hl : ∀ k, (joinTo ws m k).length = 25 := fun k => tab_len _
  have h1 := h.set (hl _) a (joinw m a) (by omega)
  rw [joinTo_succ _ _ _ (by omega)] at h1
  have h2 := h1.set (hl _) (a + 1) (joinw m (a + 1)) (by omega)
  rw [joinTo_succ _ _ _ (by omega)] at h2
  have h3 := h2.set (hl _) (a + 2) (joinw m (a + 2)) (by omega)
  rw [joinTo_succ _ _ _ (by omega)] at h3
  have h4 := h3.set (hl _) (a + 3) (joinw m (a + 3)) (by omega)
  rw [joinTo_succ _ _ _ (by omega)] at h4
  have h5 := h4.set (hl _) (a + 4) (joinw m (a + 4)) (by omega)
  rw [joinTo_succ _ _ _ (by omega)] at h5
  exact h5
theorem fiveRow_far {w : World} {g t n : Nat} {f : Nat → Value} (h : w.rowIs g t n f) {b : Nat} (hb : g ≠ b) (o j : Nat) (v0 v1 v2 v3 v4 : Value) : (fiveRow w b o j v0 v1 v2 v3 v4).rowIs g t n f :=
  ((((h.setOther (a := ⟨b, o + j, none⟩) hb v0).setOther (a := ⟨b, o + (j + 1), none⟩) hb v1).setOther (a := ⟨b, o + (j + 2), none⟩) hb v2).setOther (a := ⟨b, o + (j + 3), none⟩) hb v3).setOther (a := ⟨b, o + (j + 4), none⟩) hb v4
theorem fiveRow_only {a w : World} {b : Nat} (h : a.grownBy w (some b)) (o j : Nat) (v0 v1 v2 v3 v4 : Value) : a.grownBy (fiveRow w b o j v0 v1 v2 v3 v4) (some b) :=
  only_set (only_set (only_set (only_set (only_set h (.inl rfl) _) (.inl rfl) _) (.inl rfl) _) (.inl rfl) _) (.inl rfl) _

set_option maxHeartbeats 2000000 in
set_option maxRecDepth 100000 in
theorem join_any (b t n o g : Nat) (f : Nat → Value) (ws m : List Nat) (w : World) (hS : St w b t n f o ws) (hO : Ok ws) (hR : w.rowIs g 76 25 (wordRow m)) (hM : Ok m) (hne : g ≠ b) :
    Calls Tryd.prog 76 #[.pointer (some ⟨b, o, none⟩), .pointer (some ⟨g, 0, none⟩)] w fun e w' => e = .returned (.tuple #[]) ∧ St w' b t n f o (join m) ∧ w.grownBy w' (some b) := by
  have HS := Lib.hid hS; clear hS
  have HO := Lib.hid hO; clear hO
  have HR := Lib.hid hR; clear hR
  have HM := Lib.hid hM; clear hM
  go_enter Tryd.func76, Tryd.ntmps76
  go_wp2
  go_loopw [4] (fun i W => ∃ a : Nat, a ≤ 25 ∧ i = .int .i64 a ∧ Hid (a % 5 = 0) ∧ Hid (St W b t n f o (joinTo ws m a)) ∧ Hid (W.rowIs g 76 25 (wordRow m)) ∧ Hid (w.grownBy W (some b))) (fun i _ => 25 - (intOf i).toNat)
  case atStart => exact ⟨0, by omega, rfl, Lib.hid rfl, Lib.hid (by rw [joinTo_zero HO.out]; exact HS.out), HR, Lib.hid (World.grownBy.refl _ _)⟩
  case round =>
    obtain ⟨a, ha, rfl, H5, HS1, HR1, HG1⟩ := hrel
    by_cases hlt : a < 25
    · have h20 : a ≤ 20 := by have := H5.out; omega
      have c0 := HR1.out.cell (i := a) (by omega)
      have c1 := HR1.out.cell (i := a + 1) (by omega)
      have c2 := HR1.out.cell (i := a + 2) (by omega)
      have c3 := HR1.out.cell (i := a + 3) (by omega)
      have c4 := HR1.out.cell (i := a + 4) (by omega)
      unfold wordRow at c0 c1 c2 c3 c4
      have d0 := HS1.out.cell a (by omega)
      have d1 := HS1.out.cell (a + 1) (by omega)
      have d2 := HS1.out.cell (a + 2) (by omega)
      have d3 := HS1.out.cell (a + 3) (by omega)
      have d4 := HS1.out.cell (a + 4) (by omega)
      have f0 := HS1.out.frozen (o + a)
      have f1 := HS1.out.frozen (o + (a + 1))
      have f2 := HS1.out.frozen (o + (a + 2))
      have f3 := HS1.out.frozen (o + (a + 3))
      have f4 := HS1.out.frozen (o + (a + 4))
      have h5 := H5.out
      have j0 := join_bits HM.out a a (a + 1) (a + 2) (by omega) (by omega) (by omega)
      have j1 := join_bits HM.out (a + 1) (a + 1) (a + 2) (a + 3) (by omega) (by omega) (by omega)
      have j2 := join_bits HM.out (a + 2) (a + 2) (a + 3) (a + 4) (by omega) (by omega) (by omega)
      have j3 := join_bits HM.out (a + 3) (a + 3) (a + 4) a (by omega) (by omega) (by omega)
      have j4 := join_bits HM.out (a + 4) (a + 4) a (a + 1) (by omega) (by omega) (by omega)
      clear h5
      go_wp2
      go_quiet (fail)
      go_wp2
      go_roundw
      case rel =>
        exact ⟨a + 5, by omega, by go_num, Lib.hid (by have := H5.out; omega), Lib.hid ((HS1.out.drewN nq).fiveRow h20), Lib.hid (fiveRow_far (rowIs_drewN HR1.out nq) hne o a _ _ _ _ _), Lib.hid (fiveRow_only (only_drewN HG1.out nq) o a _ _ _ _ _)⟩
      case measure => simp [intOf]; omega
    · obtain rfl : a = 25 := by omega
      go_wp2
      go_end0
      exact ⟨rfl, by rw [← joinTo_all ws]; exact HS1.out, HG1.out⟩

end Go.Proofs.YtfhibjpkbbbfpaaDoor.Kec

namespace Go.Proofs.YtfhibjpkbbbfpaaDoor.Kec
set_option linter.all false
open Go.RowKit

theorem rowIs_words {w : World} {g : Nat} {t : TypeId} {ws : List Nat} (h : w.heap[g]? = some (.cells (words ws) t (0, 0))) (hl : ws.length = 25) : w.rowIs g t 25 (wordRow ws) :=
  ⟨words ws, h, by rw [words_size, hl], fun i hi => numsOf_at .u64 ws i (by omega)⟩
theorem only_of_below {a w : World} (h : Below a.heap.size a w) (row : Option Nat) : a.grownBy w row := ⟨h.os, h.tape, h.output, h.size, fun i hi _ => h.block i hi⟩
theorem only_setRow {a w : World} {g g' : Nat} (h : a.grownBy w (some g)) (hp : a.heap.size ≤ g') (cs : Array Value) : a.grownBy (w.setRow g' cs) (some g) :=
  ⟨h.os, h.tape, h.output, by simpa using h.size, fun i hi hne => (setRow_other w g' i cs (by omega)).trans (h.block i hi hne)⟩
def iota (m : List Nat) (c : Nat) : Nat := gt (join m) 0 ^^^ c
theorem iota_bits {m : List Nat} (h : Ok m) (k : Nat) (hk : k < 24) : bits .xor .u64 ((gt (join m) 0 : Nat) : Int) ((gt roundsT k : Nat) : Int) = ((iota m (gt roundsT k) : Nat) : Int) := by
  rw [u64_xor_nat _ _ ((ok_join h).2 _) (rounds_lt k hk)]; rfl

set_option maxHeartbeats 2000000 in
set_option maxRecDepth 100000 in
theorem change_any (b t n o : Nat) (f : Nat → Value) (ws : List Nat) (w : World) (hS : St w b t n f o ws) (hO : Ok ws) (hT : Tables w) (hb : 6 ≤ b) :
    Calls Tryd.prog 67 #[.pointer (some ⟨b, o, none⟩)] w fun e w' => e = .returned (.tuple #[]) ∧ St w' b t n f o (change ws) ∧ w.grownBy w' (some b) := by
  have hlt := hS.lt
  obtain ⟨tt, fr, hrc⟩ := hT.rounds
  have HS := Lib.hid hS; clear hS
  have HO := Lib.hid hO; clear hO
  have HT := Lib.hid hT; clear hT
  go_enter Tryd.func67, Tryd.ntmps67
  go_wp2_with (refine wpList_load_row rfl 97 _ rfl 1 rfl tt _ fr _ hrc Tryd.underlying97 rfl (by kernel_rfl) ?_)
  go_loopw [6] (fun i W => ∃ k : Nat, k ≤ 24 ∧ i = .int .i64 k ∧ Hid (St W b t n f o (changeTo ws k)) ∧ Hid (w.grownBy W (some b))) (fun i _ => 24 - (intOf i).toNat)
  case atStart => exact ⟨0, by omega, rfl, HS, Lib.hid (World.grownBy.refl _ _)⟩
  case round =>
    obtain ⟨k, hk, rfl, HS1, HG1⟩ := hrel
    by_cases hlt5 : k < 24
    · have hix := run_index_one (P := Tryd.prog) 97 71 24 _ (numsOf .u64 roundsT) .i64 k _ Tryd.underlying97 Tryd.underlying71 rfl (by kernel_rfl) hlt5 (numsOf_at .u64 roundsT k hlt5)
      have HO1 := Lib.hid (ok_changeTo HO.out k (by omega))
      have HT1 := Lib.hid (HT.out.grown HG1.out hb)
      go_wp2_with fail
      refine (spread_any b t n o f (changeTo ws k) _ HS1.out HO1.out).mono ?_
      rintro e w1 ⟨rfl, hS2, hG2⟩
      have HS2 := Lib.hid hS2; have HG2 := Lib.hid hG2; clear hS2 hG2
      have HT2 := Lib.hid (HT1.out.grown HG2.out hb)
      go_wp2_with fail
      refine (turned_any b t n o f (spread (changeTo ws k)) _ HS2.out (ok_spread HO1.out) HT2.out).mono ?_
      rintro e w2 ⟨rfl, hB3⟩
      have HB3 := Lib.hid hB3; clear hB3
      have hlb : b < w2.heap.size := by have := HS2.out.lt; have := HB3.out.size; omega
      have hl : Ok (moved (spread (changeTo ws k))) := ok_movedTo (ok_spread HO1.out) 25 (Nat.le_refl _)
      have hm : changeTo ws (k + 1) = (join (moved (spread (changeTo ws k)))).set 0 (gt (join (moved (spread (changeTo ws k)))) 0 ^^^ gt roundsT k) := rfl
      generalize moved (spread (changeTo ws k)) = m at *
      have hi : (Tryd.prog.info? 76).map (·.size) = some (words m).size := by rw [words_size, hl.1]; kernel_rfl
      have hzm : (words zeros).size = (words m).size := by rw [words_size, words_size, ok_zeros.1, hl.1]
      have HL := Lib.hid hl; have HZM := Lib.hid hzm; have HI := Lib.hid hi; have HM := Lib.hid hm; clear hl hi hzm hm
      go_wp2_with (refine wpList_store_row rfl 76 (.tmp 4) (.tmp 12) rfl w2.heap.size (words m) rfl rfl 76 (words zeros) (heap_alloc_last w2 _) HI.out HZM.out (words_one _) ?_)
      rw [World.setRow_alloc_new]
      have HR4 := Lib.hid (rowIs_words (heap_alloc_last w2 (.cells (words m) 76)) HL.out.1)
      have HS4 := Lib.hid ((HS2.out.of_block (HB3.out.block b HS2.out.lt)).alloc (.cells (words m) 76))
      have HG4 := Lib.hid (only_alloc (only_then (only_then HG1.out HG2.out (.inl rfl)) (only_of_below HB3.out (some b)) (.inl rfl)) (.cells (words m) 76))
      refine (join_any b t n o w2.heap.size f (spread (changeTo ws k)) m _ HS4.out (ok_spread HO1.out) HR4.out HL.out (by omega)).mono ?_
      rintro e w3 ⟨rfl, hS5, hG5⟩
      have HS5 := Lib.hid hS5; have HG5 := Lib.hid (only_then HG4.out hG5 (.inl rfl)); clear hS5 hG5
      have c0 : w3.cell? ⟨b, o, none⟩ = some (.int .u64 (gt (join m) 0 : Nat)) := HS5.out.cell 0 (by omega)
      have f0 := HS5.out.frozen o
      have hio := iota_bits HL.out k hlt5
      go_wp2
      go_region
      go_wp2
      go_roundw
      case rel =>
        have r1 : St (w3.setCell ⟨b, o, none⟩ (.int .u64 (iota m (gt roundsT k) : Nat))) b t n f o (changeTo ws (k + 1)) := by
          rw [HM.out]
          exact HS5.out.set (ok_join HL.out).1 0 _ (by omega)
        exact ⟨k + 1, by omega, by go_num, Lib.hid r1.drew, Lib.hid (only_drew (only_set HG5.out (.inl rfl) _))⟩
      case measure => simp [intOf]; omega
    · obtain rfl : k = 24 := by omega
      go_wp2
      go_end0
      exact ⟨rfl, HS1.out, HG1.out⟩

end Go.Proofs.YtfhibjpkbbbfpaaDoor.Kec
