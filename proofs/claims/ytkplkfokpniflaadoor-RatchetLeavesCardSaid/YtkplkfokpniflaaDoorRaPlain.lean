/- Ratchets as lists of bytes: right, gone on, taken; what the lower layers tell, in one form. -/
import Derived.Test.YtkplkfokpniflaaDoorHkM5
import Derived.Test.YtkplkfokpniflaaDoorWrM1
import Derived.Laws.Cover3
namespace Go.Proofs.YtkplkfokpniflaaDoor.Ra
set_option linter.all false
open Go.RowKit
open Wr (Txt Any New bcells gt)

/-- the tables, as they lie -/
structure Tabs (w : World) : Prop where
  sha : Sha.Tables w
theorem Tabs.big {w : World} (h : Tabs w) : 3 ≤ w.heap.size := h.sha.lt
theorem Tabs.below {w w' : World} {B : Nat} (h : Tabs w) (hg : Below B w w') (hb : 3 ≤ B) : Tabs w' := ⟨h.sha.below hg hb⟩
theorem Tabs.at {w w' : World} (h : Tabs w) (hg : Below w.heap.size w w') : Tabs w' := h.below hg h.big
theorem Tabs.drew {w : World} (h : Tabs w) : Tabs w.drew := ⟨h.sha.drew⟩
theorem Tabs.drewN {w : World} (h : Tabs w) (k : Nat) : Tabs (w.drewN k) := ⟨h.sha.drewN k⟩

/-! ### Plain -/
def lb (key : List Nat) (s : ByteArray) (b : List Nat) : List Nat := Sha.lab key s b 32
theorem lab_lt (key : List Nat) (s : ByteArray) (b : List Nat) (x : Int) : ∀ j, gt (Sha.lab key s b x) j < 256 := by
  unfold Sha.lab; split
  · exact Sha.exp_lt _ _ _
  · intro j; simp [gt, Wr.gt]
theorem lab_len {key : List Nat} {s : ByteArray} {b : List Nat} {x : Int} (h : (0 ≤ x ∧ x ≤ 8160) ∧ s.size ≤ 40 ∧ b.length ≤ 16000) : (Sha.lab key s b x).length = x.toNat := by
  unfold Sha.lab; rw [if_pos h]; exact Sha.expand_len _ _ _ (by omega)
theorem lb_len {key : List Nat} {s : ByteArray} {b : List Nat} (hs : s.size ≤ 40) (hb : b.length ≤ 16000) : (lb key s b).length = 32 := lab_len ⟨by omega, hs, hb⟩
theorem lb_lt (key : List Nat) (s : ByteArray) (b : List Nat) : ∀ j, gt (lb key s b) j < 256 := lab_lt _ _ _ _
/-- a number's four bytes -/
def nb (g : Int) : List Nat := Wr.numB g 4
theorem nb_len (g : Int) : (nb g).length ≤ 4 := by
  unfold nb Wr.numB; split
  · rw [Wr.be_len]; simp
  · simp
/-- the key of a secret and a number, and the secret behind -/
def ky (s : List Nat) (g : Int) : List Nat := lb s ⟨#[107, 101, 121]⟩ (nb g)
def nx (s : List Nat) (g : Int) : List Nat := lb s ⟨#[110, 101, 120, 116]⟩ (nb g)
theorem ky_len (s : List Nat) (g : Int) : (ky s g).length = 32 := lb_len (by decide) (by have := nb_len g; omega)
theorem nx_len (s : List Nat) (g : Int) : (nx s g).length = 32 := lb_len (by decide) (by have := nb_len g; omega)
/-- a key that is kept -/
structure Kd where
  g : Int
  key : List Nat
/-- a ratchet -/
structure Rk where
  gen : Int
  sec : List Nat
  kept : List Kd
def zR : Rk := ⟨0, [], []⟩
def zK : Kd := ⟨0, []⟩
def kd (l : List Kd) (j : Nat) : Kd := l.getD j zK
theorem kd_at {l : List Kd} {j : Nat} (h : j < l.length) : kd l j = l[j] := by
  unfold kd; rw [List.getD_eq_getElem?_getD, List.getElem?_eq_getElem h]; rfl
theorem kd_drop (l : List Kd) (k : Nat) (h : k < l.length) : l.drop k = kd l k :: l.drop (k + 1) := by
  rw [kd_at h]; exact List.drop_eq_getElem_cons h
theorem kd_take (l : List Kd) (k : Nat) (h : k < l.length) : l.take (k + 1) = l.take k ++ [kd l k] := by
  rw [kd_at h]; exact List.take_succ_eq_append_getElem h
theorem kd_mem {l : List Kd} {j : Nat} (h : j < l.length) : kd l j ∈ l := by rw [kd_at h]; exact List.getElem_mem h
theorem kd_ge {l : List Kd} {j : Nat} (h : l.length ≤ j) : kd l j = zK := by
  unfold kd; rw [List.getD_eq_getElem?_getD, List.getElem?_eq_none h]; rfl
/-- their numbers rise, from more than last on, below gen; their keys may be keys -/
def rise (last gen : Int) : List Kd → Bool
  | [] => true
  | k :: l => (decide (last < k.g) && decide (k.g < gen) && k.key.length == 32) && rise k.g gen l
def rightR (r : Rk) : Bool := decide (0 ≤ r.gen) && decide (r.gen ≤ 1073741824) && r.sec.length == 32 && decide (r.kept.length ≤ 16) && rise (-1) r.gen r.kept
structure Right (r : Rk) : Prop where
  lo : 0 ≤ r.gen
  hi : r.gen ≤ 1073741824
  sec : r.sec.length = 32
  many : r.kept.length ≤ 16
  ris : rise (-1) r.gen r.kept = true
theorem right_iff (r : Rk) : rightR r = true ↔ Right r := by
  unfold rightR
  simp only [Bool.and_eq_true, decide_eq_true_eq, beq_iff_eq]
  exact ⟨fun ⟨⟨⟨⟨a, b⟩, c⟩, d⟩, e⟩ => ⟨a, b, c, d, e⟩, fun h => ⟨⟨⟨⟨h.lo, h.hi⟩, h.sec⟩, h.many⟩, h.ris⟩⟩
theorem rise_keys {gen : Int} : ∀ {l : List Kd} {last : Int}, rise last gen l = true → ∀ k ∈ l, last < k.g ∧ k.g < gen ∧ k.key.length = 32
  | [], _, _, k, hk => by cases hk
  | a :: l, last, h, k, hk => by
    simp only [rise, Bool.and_eq_true, decide_eq_true_eq, beq_iff_eq] at h
    obtain ⟨⟨⟨h1, h2⟩, h3⟩, h4⟩ := h
    rcases List.mem_cons.1 hk with rfl | hk
    · exact ⟨h1, h2, h3⟩
    · obtain ⟨g1, g2, g3⟩ := rise_keys h4 k hk
      exact ⟨by omega, g2, g3⟩
/-- gone on by one; and with the key kept -/
def nextR (r : Rk) : Rk := ⟨r.gen + 1, nx r.sec r.gen, r.kept⟩
def l16 (l : List Kd) : List Kd := l.drop (l.length - 16)
def pass (r : Rk) : Rk := ⟨r.gen + 1, nx r.sec r.gen, l16 (r.kept ++ [⟨r.gen, ky r.sec r.gen⟩])⟩
def over : Nat → Rk → Rk
  | 0, r => r
  | n + 1, r => over n (pass r)
def gate (r : Rk) : Int := if rightR r = true then 0 else 1
def nextE (r : Rk) : Int := if rightR r = false then 1 else if r.gen = 1073741824 then 2 else 0
/-- the place of a number among those that are kept -/
def at' (g : Int) : List Kd → Option Nat
  | [] => none
  | k :: l => if k.g = g then some 0 else (at' g l).map (· + 1)
/-- what is taken: the ratchet, the key, the error -/
def takeR (r : Rk) (g : Int) : Rk × List Nat × Int :=
  if rightR r = false then (zR, [], 1)
  else if g < r.gen then
    match at' g r.kept with
    | none => (zR, [], 171)
    | some i => (⟨r.gen, r.sec, r.kept.eraseIdx i⟩, (kd r.kept i).key, 0)
  else if 8 < g - r.gen then (zR, [], 172)
  else if 1073741824 ≤ g then (zR, [], 2)
  else (nextR (over (g - r.gen).toNat r), ky (over (g - r.gen).toNat r).sec g, 0)
theorem at_none {g : Int} : ∀ {l : List Kd}, at' g l = none ↔ ∀ k ∈ l, k.g ≠ g
  | [] => by simp [at']
  | a :: l => by
    unfold at'
    by_cases h : a.g = g
    · simp [h]
    · rw [if_neg h]
      simp [at_none (l := l), h]
theorem at_some {g : Int} : ∀ {l : List Kd} {i : Nat}, at' g l = some i → i < l.length ∧ (kd l i).g = g ∧ ∀ j, j < i → (kd l j).g ≠ g
  | [], i, h => by simp [at'] at h
  | a :: l, i, h => by
    unfold at' at h
    by_cases e : a.g = g
    · rw [if_pos e] at h
      injection h with h
      subst h
      exact ⟨by simp, e, fun j hj => absurd hj (by omega)⟩
    · rw [if_neg e] at h
      obtain ⟨k, h1, h2⟩ := Option.map_eq_some_iff.1 h
      subst h2
      obtain ⟨a1, a2, a3⟩ := at_some h1
      refine ⟨by simpa using a1, a2, fun j hj => ?_⟩
      cases j with
      | zero => exact e
      | succ j => exact a3 j (by omega)
theorem at_is {g : Int} {l : List Kd} {i : Nat} (h1 : i < l.length) (h2 : (kd l i).g = g) (h3 : ∀ j, j < i → (kd l j).g ≠ g) : at' g l = some i := by
  cases h : at' g l with
  | none => exact absurd h2 (at_none.1 h _ (kd_mem h1))
  | some k =>
    obtain ⟨a1, a2, a3⟩ := at_some h
    rcases Nat.lt_trichotomy i k with e | e | e
    · exact absurd h2 (a3 i e)
    · rw [e]
    · exact absurd a2 (h3 k e)
theorem at_not {g : Int} {l : List Kd} (h : ∀ j, j < l.length → (kd l j).g ≠ g) : at' g l = none := by
  refine at_none.2 fun k hk => ?_
  obtain ⟨j, hj, e⟩ := List.getElem_of_mem hk
  have := h j hj
  rw [kd_at hj, e] at this
  exact this
/-! ### What is right stays right -/
theorem rise_mono {gen gen' : Int} (hg : gen ≤ gen') : ∀ {l : List Kd} {last last' : Int}, last' ≤ last → rise last gen l = true → rise last' gen' l = true
  | [], _, _, _, _ => rfl
  | a :: l, last, last', hl, h => by
    simp only [rise, Bool.and_eq_true, decide_eq_true_eq, beq_iff_eq] at h ⊢
    obtain ⟨⟨⟨h1, h2⟩, h3⟩, h4⟩ := h
    exact ⟨⟨⟨by omega, by omega⟩, h3⟩, rise_mono hg (Int.le_refl _) h4⟩
theorem rise_append {gen : Int} {k : Kd} (hk : gen = k.g) (hl : k.key.length = 32) : ∀ {l : List Kd} {last : Int}, last < gen → rise last gen l = true → rise last (gen + 1) (l ++ [k]) = true
  | [], last, hla, _ => by
    simp only [List.nil_append, rise, Bool.and_eq_true, decide_eq_true_eq, beq_iff_eq, and_true]
    exact ⟨⟨by omega, by omega⟩, hl⟩
  | a :: l, last, hla, h => by
    simp only [rise, Bool.and_eq_true, decide_eq_true_eq, beq_iff_eq] at h
    obtain ⟨⟨⟨h1, h2⟩, h3⟩, h4⟩ := h
    simp only [List.cons_append, rise, Bool.and_eq_true, decide_eq_true_eq, beq_iff_eq]
    exact ⟨⟨⟨h1, by omega⟩, h3⟩, rise_append hk hl h2 h4⟩
theorem rise_drop {gen : Int} : ∀ {l : List Kd} {last : Int} (n : Nat), rise last gen l = true → rise last gen (l.drop n) = true
  | [], _, n, _ => by simp [rise]
  | a :: l, last, 0, h => h
  | a :: l, last, n + 1, h => by
    simp only [rise, Bool.and_eq_true, decide_eq_true_eq, beq_iff_eq] at h
    obtain ⟨⟨⟨h1, h2⟩, h3⟩, h4⟩ := h
    exact rise_drop n (rise_mono (Int.le_refl _) (by omega) h4)
theorem rise_erase {gen : Int} : ∀ {l : List Kd} {last : Int} (i : Nat), rise last gen l = true → rise last gen (l.eraseIdx i) = true
  | [], _, n, _ => by simp [rise]
  | a :: l, last, 0, h => by
    simp only [rise, Bool.and_eq_true, decide_eq_true_eq, beq_iff_eq] at h
    obtain ⟨⟨⟨h1, h2⟩, h3⟩, h4⟩ := h
    exact rise_mono (Int.le_refl _) (by omega) h4
  | a :: l, last, n + 1, h => by
    simp only [rise, Bool.and_eq_true, decide_eq_true_eq, beq_iff_eq] at h
    obtain ⟨⟨⟨h1, h2⟩, h3⟩, h4⟩ := h
    simp only [List.eraseIdx_cons_succ, rise, Bool.and_eq_true, decide_eq_true_eq, beq_iff_eq]
    exact ⟨⟨⟨h1, h2⟩, h3⟩, rise_erase n h4⟩
theorem right_next {r : Rk} (h : Right r) (hg : r.gen < 1073741824) : Right (nextR r) :=
  ⟨by have := h.lo; show (0 : Int) ≤ r.gen + 1; omega, by show r.gen + 1 ≤ (1073741824 : Int); omega, nx_len _ _, h.many, rise_mono (by show r.gen ≤ r.gen + 1; omega) (Int.le_refl _) h.ris⟩
theorem right_pass {r : Rk} (h : Right r) (hg : r.gen < 1073741824) : Right (pass r) := by
  refine ⟨by have := h.lo; show (0 : Int) ≤ r.gen + 1; omega, by show r.gen + 1 ≤ (1073741824 : Int); omega, nx_len _ _, ?_, rise_drop _ (rise_append (gen := r.gen) (k := ⟨r.gen, ky r.sec r.gen⟩) (last := -1) rfl (ky_len _ _) (by have := h.lo; omega) h.ris)⟩
  show (l16 _).length ≤ 16
  unfold l16; rw [List.length_drop]; omega
theorem right_erase {r : Rk} (h : Right r) (i : Nat) : Right ⟨r.gen, r.sec, r.kept.eraseIdx i⟩ :=
  ⟨h.lo, h.hi, h.sec, by have := h.many; show (r.kept.eraseIdx i).length ≤ 16; have := List.length_eraseIdx_le r.kept i; omega, rise_erase i h.ris⟩
theorem pass_gen (r : Rk) : (pass r).gen = r.gen + 1 := rfl
theorem over_gen : ∀ (n : Nat) (r : Rk), (over n r).gen = r.gen + n
  | 0, r => by show r.gen = r.gen + 0; omega
  | n + 1, r => by show (over n (pass r)).gen = _; rw [over_gen n, pass_gen]; omega
theorem right_over : ∀ (n : Nat) {r : Rk}, Right r → r.gen + n ≤ 1073741824 → Right (over n r)
  | 0, _, h, _ => h
  | n + 1, r, h, hg => right_over n (right_pass h (by omega)) (by rw [pass_gen]; omega)
theorem over_succ : ∀ (n : Nat) (r : Rk), over (n + 1) r = pass (over n r)
  | 0, _ => rfl
  | n + 1, r => over_succ n (pass r)

/-! ### What hkdf tells -/
theorem told_of_own {w w' : World} {v : Value} {n : Nat} {bs : List Nat} (h : w'.ownsRow w.heap.size 5 1 v n (bcells bs)) (hx : ∀ j, gt bs j < 256) (hB : Below w.heap.size w w') : Wr.Told bs w (.returned v) w' := by
  obtain ⟨A, c, rfl, hX⟩ := Txt.of_own h hx
  exact ⟨A, n, c, rfl, hX, hB⟩
theorem told_none {w w' : World} (hb : Below w.heap.size w w') : Wr.Told [] w (.returned (.slice none 0 0)) w' := ⟨none, 0, 0, rfl, Txt.nil _ _, hb⟩
theorem label_any (s : ByteArray) (A A2 : Option Addr) (key b : List Nat) (n c nb cb : Nat) (x : Int) (w : World) (hT : Tabs w) (hK : Txt Any w A n c key) (hm : n ≤ 100000) (hX : Txt Any w A2 nb cb b) :
    Calls Tryd.prog 36 #[.slice A n c, .string s, .slice A2 nb cb, .int .i64 x] w (Wr.Told (Sha.lab key s b x) w) := by
  have hl := hX.2.1
  by_cases h : (0 ≤ x ∧ x ≤ 8160) ∧ s.size ≤ 40 ∧ nb ≤ 16000
  · obtain ⟨N, rfl⟩ := Int.eq_ofNat_of_zero_le h.1.1
    unfold Sha.lab
    rw [hl, if_pos h, Int.toNat_natCast]
    refine (Sha.label_any s A A2 key b n c nb cb N w hT.sha hK.1 hK.2.1 hK.2.2.1 hK.2.2.2.1 hm hX.1 hX.2.1 hX.2.2.2.2.1 (by omega) h.2.1 h.2.2).mono ?_
    rintro e' w' ⟨g, rfl, ho, hb⟩
    exact told_of_own ho (Sha.exp_lt _ _ _) hb
  · unfold Sha.lab
    rw [hl, if_neg h]
    refine (Sha.label_bad A A2 n c nb cb s x w (by omega)).mono ?_
    rintro e' w' ⟨rfl, rfl⟩
    exact told_none (Below.refl _ _)
theorem rlabel_any (s : ByteArray) (A A2 : Option Addr) (key b : List Nat) (n c nb cb : Nat) (x : Int) (w : World) (hK : Txt Any w A n c key) (hm : n ≤ 20000) (hX : Txt Any w A2 nb cb b) :
    Calls Tryd.prog 26 #[.slice A n c, .string s, .slice A2 nb cb, .int .i64 x] w (Wr.Told (Sha.lab key s b x) w) := by
  have hl := hX.2.1
  by_cases h : (0 ≤ x ∧ x ≤ 8160) ∧ s.size ≤ 40 ∧ nb ≤ 16000
  · obtain ⟨N, rfl⟩ := Int.eq_ofNat_of_zero_le h.1.1
    unfold Sha.lab
    rw [hl, if_pos h, Int.toNat_natCast]
    refine (Sha.rlabel_any s A A2 key b n c nb cb N w hK.1 hK.2.1 hK.2.2.2.2.1 hm hX.1 hX.2.1 hX.2.2.2.2.1 (by omega) h.2.1 h.2.2).mono ?_
    rintro e' w' ⟨v, rfl, ho, hb⟩
    exact told_of_own ho (Sha.exp_lt _ _ _) hb
  · unfold Sha.lab
    rw [hl, if_neg h]
    refine (Sha.rlabel_bad s A A2 n c nb cb x w (by omega)).mono ?_
    rintro e' w' ⟨rfl, rfl⟩
    exact told_none (Below.refl _ _)
theorem txt_low {w : World} {lo lo' : Nat} {A : Option Addr} {n c : Nat} {bs : List Nat} (h : Txt (New lo w) w A n c bs) (hl : lo' ≤ lo) : Txt (New lo' w) w A n c bs :=
  h.mono fun b x => ⟨Nat.le_trans hl x.1, x.2⟩
theorem txt_new {w w' : World} {lo : Nat} {A : Option Addr} {n c : Nat} {bs : List Nat} (h : Txt (New lo w) w A n c bs) (hb : Below w.heap.size w w') : Txt (New lo w') w' A n c bs :=
  (h.below hb).mono fun b x => ⟨x.1, Nat.lt_of_lt_of_le x.2 hb.size⟩
end Go.Proofs.YtkplkfokpniflaaDoor.Ra
