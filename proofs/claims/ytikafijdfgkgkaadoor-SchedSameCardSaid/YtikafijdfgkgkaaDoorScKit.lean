/- An epoch's keys: what sha2, hkdf and wire tell, in one form; the keys as lists of bytes. -/
import Derived.Test.YtikafijdfgkgkaaDoorHkM5
import Derived.Test.YtikafijdfgkgkaaDoorWrM2
import Derived.Laws.Cover3
namespace Go.Proofs.YtikafijdfgkgkaaDoor.Sc
set_option linter.all false
open Go.RowKit
open Wr (Txt Any New bcells gt)

/-- the tables of all packages, as they lie -/
structure Tabs (w : World) : Prop where
  sha : Sha.Tables w
  wr : Wr.Tables w
theorem Tabs.big {w : World} (h : Tabs w) : 3 ≤ w.heap.size := h.wr.lt
theorem Tabs.below {w w' : World} {B : Nat} (h : Tabs w) (hg : Below B w w') (hb : 3 ≤ B) : Tabs w' := ⟨h.sha.below hg hb, h.wr.below hg hb⟩
theorem Tabs.at {w w' : World} (h : Tabs w) (hg : Below w.heap.size w w') : Tabs w' := h.below hg h.big
theorem Tabs.drew {w : World} (h : Tabs w) : Tabs w.drew := ⟨h.sha.drew, h.wr.drew⟩
theorem Tabs.drewN {w : World} (h : Tabs w) (k : Nat) : Tabs (w.drewN k) := ⟨h.sha.drewN k, h.wr.drewN k⟩

/-! ### Plain -/
/-- what a text counts as -/
def sh (b : List Nat) : List Nat := if 16000 < b.length then Sha.sum b else b
theorem sh_yes {b : List Nat} (h : 16000 < b.length) : sh b = Sha.sum b := if_pos h
theorem sh_no {b : List Nat} (h : ¬ 16000 < b.length) : sh b = b := if_neg h
theorem sh_len (b : List Nat) : (sh b).length ≤ 16000 := by
  unfold sh; split
  · rw [Sha.sum_len]; omega
  · omega
theorem sh_lt {b : List Nat} (h : ∀ j, gt b j < 256) : ∀ j, gt (sh b) j < 256 := by
  unfold sh; split
  · exact Sha.sum_lt _
  · exact h
/-- thirty-two bytes, all nought -/
def zs : List Nat := List.replicate 32 0
theorem zs_len : zs.length = 32 := List.length_replicate ..
theorem zs_lt : ∀ j, gt zs j < 256 := fun j => by
  unfold zs Wr.gt
  rw [List.getD_eq_getElem?_getD, List.getElem?_replicate]; split <;> simp
def lb (key : List Nat) (s : ByteArray) (b : List Nat) : List Nat := Sha.lab key s b 32
theorem lab_lt (key : List Nat) (s : ByteArray) (b : List Nat) (x : Int) : ∀ j, gt (Sha.lab key s b x) j < 256 := by
  unfold Sha.lab; split
  · exact Sha.exp_lt _ _ _
  · intro j; simp [gt, Wr.gt]
theorem lab_len {key : List Nat} {s : ByteArray} {b : List Nat} {x : Int} (h : (0 ≤ x ∧ x ≤ 8160) ∧ s.size ≤ 40 ∧ b.length ≤ 16000) : (Sha.lab key s b x).length = x.toNat := by
  unfold Sha.lab; rw [if_pos h]; exact Sha.expand_len _ _ _ (by omega)
theorem lb_len {key : List Nat} {s : ByteArray} {b : List Nat} (hs : s.size ≤ 40) (hb : b.length ≤ 16000) : (lb key s b).length = 32 := lab_len ⟨by omega, hs, hb⟩
theorem lb_lt (key : List Nat) (s : ByteArray) (b : List Nat) : ∀ j, gt (lb key s b) j < 256 := lab_lt _ _ _ _
/-- the joiner's secret -/
def jn (i c x : List Nat) : List Nat := lb (Sha.mac (sh i) (sh c)) ⟨#[106, 111, 105, 110, 101, 114]⟩ (sh x)
theorem jn_len (i c x : List Nat) : (jn i c x).length = 32 := lb_len (by decide) (sh_len _)
theorem jn_lt (i c x : List Nat) : ∀ j, gt (jn i c x) j < 256 := lb_lt _ _ _
/-- what all keys come of, and the epoch's secret -/
def fst (j : List Nat) : List Nat := Sha.mac (sh j) zs
def sec (j x : List Nat) : List Nat := lb (fst j) ⟨#[101, 112, 111, 99, 104]⟩ (sh x)
/-- an epoch's keys -/
structure Ep where
  wel : List Nat
  sec : List Nat
  enc : List Nat
  exp : List Nat
  con : List Nat
  mem : List Nat
  ini : List Nat
def ep (j x : List Nat) : Ep := ⟨lb (fst j) ⟨#[119, 101, 108, 99, 111, 109, 101]⟩ [], sec j x, lb (sec j x) ⟨#[101, 110, 99, 114, 121, 112, 116]⟩ [], lb (sec j x) ⟨#[101, 120, 112, 111, 114, 116]⟩ [], lb (sec j x) ⟨#[99, 111, 110, 102, 105, 114, 109]⟩ [], lb (sec j x) ⟨#[109, 101, 109, 98, 101, 114]⟩ [], lb (sec j x) ⟨#[105, 110, 105, 116]⟩ []⟩
/-- the sum of two texts -/
def sm (a b : List Nat) : List Nat := Sha.sum (Wr.txB (sh a) ++ Wr.txB (sh b))
/-- what is exported -/
def xp (key : List Nat) (l : ByteArray) (x : List Nat) (n : Int) : List Nat := if (lb (sh key) l []).length = 0 then [] else Sha.lab (lb (sh key) l []) ⟨#[101, 120, 112, 111, 114, 116, 101, 100]⟩ (Sha.sum (sh x)) n
theorem xp_len {key : List Nat} {l : ByteArray} {x : List Nat} {n : Nat} (hl : l.size ≤ 40) (hn : n ≤ 8160) : (xp key l x n).length = n := by
  unfold xp
  rw [if_neg (by rw [lb_len hl (by simp)]; omega), lab_len ⟨by omega, by decide, by rw [Sha.sum_len]; omega⟩]
  omega
theorem xp_lt (key : List Nat) (l : ByteArray) (x : List Nat) (n : Int) : ∀ j, gt (xp key l x n) j < 256 := by
  unfold xp; split
  · intro j; simp [Wr.gt]
  · exact lab_lt _ _ _ _

/-! ### What the layers below tell -/
theorem told_of_own {w w' : World} {v : Value} {n : Nat} {bs : List Nat} (h : w'.ownsRow w.heap.size 5 1 v n (bcells bs)) (hx : ∀ j, gt bs j < 256) (hB : Below w.heap.size w w') : Wr.Told bs w (.returned v) w' := by
  obtain ⟨A, c, rfl, hX⟩ := Txt.of_own h hx
  exact ⟨A, n, c, rfl, hX, hB⟩
theorem told_of_summed {w w' : World} {e : Ending} {bs : List Nat} (h : Sha.Summed w bs e w') (hx : ∀ j, gt bs j < 256) : Wr.Told bs w e w' := by
  obtain ⟨h, c, rfl, ho, hb⟩ := h
  exact told_of_own ho hx hb
theorem told_none {w w' : World} (hb : Below w.heap.size w w') : Wr.Told [] w (.returned (.slice none 0 0)) w' := ⟨none, 0, 0, rfl, Txt.nil _ _, hb⟩
theorem label_any (s : ByteArray) (A A2 : Option Addr) (key b : List Nat) (n c nb cb : Nat) (x : Int) (w : World) (hT : Tabs w) (hK : Txt Any w A n c key) (hm : n ≤ 100000) (hX : Txt Any w A2 nb cb b) :
    Calls Tryd.prog 21 #[.slice A n c, .string s, .slice A2 nb cb, .int .i64 x] w (Wr.Told (Sha.lab key s b x) w) := by
  have hl := hX.2.1
  by_cases h : (0 ≤ x ∧ x ≤ 8160) ∧ s.size ≤ 40 ∧ nb ≤ 16000
  · obtain ⟨N, rfl⟩ := Int.eq_ofNat_of_zero_le h.1.1
    unfold Sha.lab
    rw [hl, if_pos h, Int.toNat_natCast]
    refine (Sha.label_any s A A2 key b n c nb cb N w hT.sha hK.1 hK.2.1 hK.2.2.1 hK.2.2.2.1 hm hX.1 hX.2.1 hX.2.2.2.2.1 (by omega) h.2.1 h.2.2).mono ?_
    rintro e' w' ⟨g, rfl, ho, hb⟩
    exact told_of_own ho (Sha.exp_lt _ _ _) hb
  · unfold Sha.lab
    rw [hl, if_neg h]
    refine (Sha.label_bad A A2 n c nb cb s x w (by omega)).mono ?_
    rintro e' w' ⟨rfl, rfl⟩
    exact told_none (Below.refl _ _)
theorem extract_any (A A2 : Option Addr) (key t : List Nat) (n c n2 c2 : Nat) (w : World) (hT : Tabs w) (hK : Txt Any w A n c key) (hm : n ≤ 100000) (hX : Txt Any w A2 n2 c2 t) (hm2 : n2 ≤ 100000) :
    Calls Tryd.prog 23 #[.slice A n c, .slice A2 n2 c2] w (Wr.Told (Sha.mac key t) w) :=
  (Sha.extract_any A A2 key t n c n2 c2 w hT.sha hK.1 hK.2.1 hK.2.2.1 hK.2.2.2.1 hm hX.1 hX.2.1 hX.2.2.1 hX.2.2.2.1 hm2).mono fun _ _ h => told_of_summed h (Sha.mac_lt _ _)
theorem sum_any (A : Option Addr) (bs : List Nat) (n c : Nat) (w : World) (hT : Tabs w) (hX : Txt Any w A n c bs) (hm : n ≤ 1000000) :
    Calls Tryd.prog 22 #[.slice A n c] w (Wr.Told (Sha.sum bs) w) :=
  (Sha.sum_any A bs n c w hT.sha hX.1 hX.2.1 hX.2.2.1 hX.2.2.2.1 hm).mono fun _ _ h => told_of_summed h (Sha.sum_lt _)
theorem rlabel_any (s : ByteArray) (A A2 : Option Addr) (key b : List Nat) (n c nb cb : Nat) (x : Int) (w : World) (hK : Txt Any w A n c key) (hm : n ≤ 20000) (hX : Txt Any w A2 nb cb b) :
    Calls Tryd.prog 25 #[.slice A n c, .string s, .slice A2 nb cb, .int .i64 x] w (Wr.Told (Sha.lab key s b x) w) := by
  have hl := hX.2.1
  by_cases h : (0 ≤ x ∧ x ≤ 8160) ∧ s.size ≤ 40 ∧ nb ≤ 16000
  · obtain ⟨N, rfl⟩ := Int.eq_ofNat_of_zero_le h.1.1
    unfold Sha.lab
    rw [hl, if_pos h, Int.toNat_natCast]
    refine (Sha.rlabel_any s A A2 key b n c nb cb N w hK.1 hK.2.1 hK.2.2.2.2.1 hm hX.1 hX.2.1 hX.2.2.2.2.1 (by omega) h.2.1 h.2.2).mono ?_
    rintro e' w' ⟨v, rfl, ho, hb⟩
    exact told_of_own ho (Sha.exp_lt _ _ _) hb
  · unfold Sha.lab
    rw [hl, if_neg h]
    refine (Sha.rlabel_bad s A A2 n c nb cb x w (by omega)).mono ?_
    rintro e' w' ⟨rfl, rfl⟩
    exact told_none (Below.refl _ _)
theorem rextract_any (A A2 : Option Addr) (key t : List Nat) (n c n2 c2 : Nat) (w : World) (hK : Txt Any w A n c key) (hm : n ≤ 20000) (hX : Txt Any w A2 n2 c2 t) (hm2 : n2 ≤ 20000) :
    Calls Tryd.prog 26 #[.slice A n c, .slice A2 n2 c2] w (Wr.Told (Sha.mac key t) w) :=
  (Sha.rextract_any A A2 key t n c n2 c2 w hK.1 hK.2.1 hK.2.2.2.2.1 hm hX.1 hX.2.1 hX.2.2.2.2.1 hm2).mono fun _ _ h => told_of_summed h (Sha.mac_lt _ _)
theorem rsum_any (A : Option Addr) (bs : List Nat) (n c : Nat) (w : World) (hX : Txt Any w A n c bs) (hm : n ≤ 100000) :
    Calls Tryd.prog 31 #[.slice A n c] w (Wr.Told (Sha.sum bs) w) :=
  (Sha.rsum_any A bs n c w hX.1 hX.2.1 hX.2.2.2.2.1 hm).mono fun _ _ h => told_of_summed h (Sha.sum_lt _)
theorem txt_new {w w' : World} {lo : Nat} {A : Option Addr} {n c : Nat} {bs : List Nat} (h : Txt (New lo w) w A n c bs) (hb : Below w.heap.size w w') : Txt (New lo w') w' A n c bs :=
  (h.below hb).mono fun b x => ⟨x.1, Nat.lt_of_lt_of_le x.2 hb.size⟩
theorem txt_low {w : World} {lo lo' : Nat} {A : Option Addr} {n c : Nat} {bs : List Nat} (h : Txt (New lo w) w A n c bs) (hl : lo' ≤ lo) : Txt (New lo' w) w A n c bs :=
  h.mono fun b x => ⟨Nat.le_trans hl x.1, x.2⟩
end Go.Proofs.YtikafijdfgkgkaaDoor.Sc
