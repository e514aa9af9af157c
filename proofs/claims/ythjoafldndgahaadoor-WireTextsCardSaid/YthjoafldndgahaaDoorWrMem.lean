/- Texts and lists of texts that lie in memory; the package's table. -/
import Derived.Test.YthjoafldndgahaaDoorWrPlain
namespace Go.Proofs.YthjoafldndgahaaDoor.Wr
set_option linter.all false
open Go.RowKit

/-- the classes of lengths, as they lie -/
def classCells : Array Value := #[.int .i64 1, .int .u8 64, .int .i64 0, .int .i64 64, .int .i64 2, .int .u8 128, .int .i64 16384, .int .i64 16384, .int .i64 4, .int .u8 192, .int .i64 2147483648, .int .i64 1073741824]
def Tables (w : World) : Prop := ∃ t fr, w.heap[0]? = some (.cells classCells t fr)
theorem Tables.keep {w w' : World} (h : Tables w) (e : w'.heap[0]? = w.heap[0]?) : Tables w' := by
  obtain ⟨t, fr, h⟩ := h
  exact ⟨t, fr, e.trans h⟩
theorem Tables.lt {w : World} (h : Tables w) : 1 ≤ w.heap.size := by
  obtain ⟨t, fr, h⟩ := h
  obtain ⟨hlt, _⟩ := Array.getElem?_eq_some_iff.1 h
  exact Nat.succ_le_of_lt (Nat.lt_of_le_of_lt (Nat.zero_le _) hlt)
theorem Tables.below {w w' : World} {B : Nat} (h : Tables w) (hg : Below B w w') (hb : 1 ≤ B) : Tables w' := h.keep (hg.block _ (by show 0 < B; omega))
theorem Tables.grown {w w' : World} {b : Nat} (h : Tables w) (hg : w.grownBy w' (some b)) (hb : 1 ≤ b) : Tables w' :=
  h.keep (hg.block _ (by have := h.lt; show 0 < _; omega) (by intro e; injection e; omega))
theorem Tables.drew {w : World} (h : Tables w) : Tables w.drew := h
theorem Tables.drewN {w : World} (h : Tables w) (n : Nat) : Tables (w.drewN n) := h

theorem add_add (a : Addr) (i j : Nat) : (a.add i).add j = a.add (i + j) := by
  unfold Addr.add
  by_cases hi : i = 0
  · subst hi; simp
  · by_cases hj : j = 0
    · subst hj; simp [hi]
    · simp [hi, hj, Nat.add_assoc]
theorem add_block (a : Addr) (i : Nat) : (a.add i).block = a.block := by unfold Addr.add; split <;> rfl
/-- a text: a slice with these bytes, in a block of which S is true -/
def Txt (S : Nat → Prop) (w : World) (A : Option Addr) (n c : Nat) (bs : List Nat) : Prop :=
  Rd w w.heap.size A bs ∧ bs.length = n ∧ n ≤ c ∧ c ≤ 9223372036854775807 ∧ (A = none → c = 0) ∧ ∀ ad, A = some ad → S ad.block
theorem Txt.nil (S : Nat → Prop) (w : World) : Txt S w none 0 0 [] := ⟨Rd.nil _ _ _, rfl, Nat.le_refl _, by omega, fun _ => rfl, fun _ e => by cases e⟩
theorem Txt.lt {S : Nat → Prop} {w : World} {A : Option Addr} {n c : Nat} {bs : List Nat} (h : Txt S w A n c bs) : ∀ j, gt bs j < 256 := h.1.1
theorem Txt.len {S : Nat → Prop} {w : World} {A : Option Addr} {n c : Nat} {bs : List Nat} (h : Txt S w A n c bs) : bs.length = n := h.2.1
theorem Txt.conv {S : Nat → Prop} {w : World} {A : Option Addr} {n c : Nat} {bs : List Nat} (h : Txt S w A n c bs) : (convert 22 9 (.slice A n c)).run Tryd.prog w = .ok (.string (txt bs)) w := conv_rd h.1 h.2.1
theorem Txt.mono {S S' : Nat → Prop} {w : World} {A : Option Addr} {n c : Nat} {bs : List Nat} (h : Txt S w A n c bs) (hS : ∀ b, S b → S' b) : Txt S' w A n c bs :=
  ⟨h.1, h.2.1, h.2.2.1, h.2.2.2.1, h.2.2.2.2.1, fun ad e => hS _ (h.2.2.2.2.2 ad e)⟩
theorem rd_keepS {S : Nat → Prop} {w w' : World} {A : Option Addr} {bs : List Nat} (h : Rd w w.heap.size A bs) (h6 : ∀ ad, A = some ad → S ad.block) (hs : w.heap.size ≤ w'.heap.size) (hc : ∀ b, S b → b < w.heap.size → w'.heap[b]? = w.heap[b]?) : Rd w' w'.heap.size A bs := by
  refine ⟨h.1, fun hn => ?_⟩
  obtain ⟨ad, ha, hlt, hr⟩ := h.2 hn
  refine ⟨ad, ha, by omega, fun j hj => ?_⟩
  have hbl : (ad.add j).block = ad.block := by unfold Addr.add; split <;> rfl
  rw [World.cell?_of_block (hc (ad.add j).block (by rw [hbl]; exact h6 ad ha) (by rw [hbl]; exact hlt))]
  exact hr j hj
theorem Txt.kept {S : Nat → Prop} {w w' : World} {A : Option Addr} {n c : Nat} {bs : List Nat} (h : Txt S w A n c bs) (hs : w.heap.size ≤ w'.heap.size) (hc : ∀ b, S b → b < w.heap.size → w'.heap[b]? = w.heap[b]?) : Txt S w' A n c bs :=
  ⟨rd_keepS h.1 h.2.2.2.2.2 hs hc, h.2⟩
theorem Txt.below {S : Nat → Prop} {w w' : World} {A : Option Addr} {n c : Nat} {bs : List Nat} (h : Txt S w A n c bs) (hb : Below w.heap.size w w') : Txt S w' A n c bs :=
  h.kept hb.size fun b _ hlt => hb.block b hlt
theorem Txt.drew {S : Nat → Prop} {w : World} {A : Option Addr} {n c : Nat} {bs : List Nat} (h : Txt S w A n c bs) : Txt S w.drew A n c bs := h
theorem Txt.drewN {S : Nat → Prop} {w : World} {A : Option Addr} {n c : Nat} {bs : List Nat} (h : Txt S w A n c bs) (k : Nat) : Txt S (w.drewN k) A n c bs := h.kept (Nat.le_refl _) fun _ _ _ => rfl
/-- of whatever block -/
def Any : Nat → Prop := fun _ => True
/-- new since lo -/
def New (lo : Nat) (w : World) : Nat → Prop := fun b => lo ≤ b ∧ b < w.heap.size
theorem Txt.any {S : Nat → Prop} {w : World} {A : Option Addr} {n c : Nat} {bs : List Nat} (h : Txt S w A n c bs) : Txt Any w A n c bs := h.mono fun _ _ => True.intro
theorem Txt.of_own {base n : Nat} {w : World} {v : Value} {bs : List Nat} (h : w.ownsRow base 5 1 v n (bcells bs)) (hx : ∀ j, gt bs j < 256) : ∃ A c, v = .slice A n c ∧ Txt (New base w) w A n c bs := by
  obtain ⟨A, c, rfl, h1, h2, h3, h4, h5, h6⟩ := own_slice h hx
  refine ⟨A, c, rfl, h4, h5, h2, h3, h1, fun ad e => ?_⟩
  subst e
  exact h6 ad.block rfl
theorem Txt.of_row {w : World} {h n base : Nat} {bs : List Nat} (hrow : w.rowIs h 5 n (byteRow bs)) (hn : bs.length = n) (hx : ∀ j, gt bs j < 256) (hb : base ≤ h) (hm : n ≤ 9223372036854775807) : Txt (New base w) w (some ⟨h, 0, none⟩) n n bs :=
  ⟨rd_of_rowIs hrow hn hx (Nat.le_refl _), hn, Nat.le_refl _, hm, fun e => (by cases e), fun ad e => (by injection e with e; subst e; exact ⟨hb, hrow.lt⟩)⟩
/-- a part of a text -/
theorem Txt.part {S : Nat → Prop} {w : World} {ad : Addr} {n c : Nat} {bs : List Nat} (h : Txt S w (some ad) n c bs) (p q : Nat) (hpq : p ≤ q) (hq : q ≤ n) : Txt S w (some (ad.add p)) (q - p) (c - p) (cut bs p q) := by
  obtain ⟨h1, h2, h3, h4, h5, h6⟩ := h
  have hl : (cut bs p q).length = q - p := cut_len _ _ _ hpq (by omega)
  refine ⟨⟨cut_lt h1.1 _ _, fun hn => ?_⟩, hl, by omega, by omega, fun e => (by cases e), fun ad' e => ?_⟩
  · obtain ⟨ad', e, hlt, hr⟩ := h1.2 (by omega)
    injection e with e
    subst e
    refine ⟨_, rfl, by rw [add_block]; exact hlt, fun j hj => ?_⟩
    rw [add_add, hr (p + j) (by omega)]
    unfold cut
    rw [gt_take _ _ _ (by omega), gt_drop]
  · injection e with e
    subst e
    rw [add_block]
    exact h6 ad rfl
theorem run_cut (ad : Addr) (n c p q : Nat) (hpq : p ≤ q) (hq : q ≤ n) (hp : p < c) (hnc : n ≤ c) (w : World) :
    (Instr.slice 22 (.slice (some ad) n c) (some (.int .i64 (p : Int))) (some (.int .i64 (q : Int))) none).run Tryd.prog w = .ok (.slice (some (ad.add p)) (q - p) (c - p)) w := by
  have h1 : Tryd.prog.underlying 22 = some (.slice (Tryd.prog.elem 22)) := by kernel_rfl
  have h3 : Tryd.prog.elem 22 = 5 := by kernel_rfl
  have h4 : (Tryd.prog.info? 5).map (·.size) = some 1 := by kernel_rfl
  cases hq' : Tryd.prog.info? 5 with
  | none => simp [hq'] at h4
  | some i =>
    have hs1 : i.size = 1 := by simpa [hq'] using h4
    rw [run_slice_lh (a := some ad) (len := n) (cap := c) (w := w) (t := 22) (ht := h1) .i64 .i64 (p : Int) (q : Int) (by omega) (by omega) (by omega), h3]
    have e1 : ((q : Int)).toNat - p = q - p := by omega
    have e3 : ¬ c = p := by omega
    simp [sizeOf, typeInfo, hq', hs1, sliced, e1, e3]
theorem run_head (A : Option Addr) (n c q : Nat) (hq : q ≤ n) (hnc : n ≤ c) (hA : A = none → c = 0) (w : World) :
    (Instr.slice 22 (.slice A n c) none (some (.int .i64 (q : Int))) none).run Tryd.prog w = .ok (.slice A q c) w := by
  have h1 : Tryd.prog.underlying 22 = some (.slice (Tryd.prog.elem 22)) := by kernel_rfl
  have h3 : Tryd.prog.elem 22 = 5 := by kernel_rfl
  have h4 : (Tryd.prog.info? 5).map (·.size) = some 1 := by kernel_rfl
  cases hq' : Tryd.prog.info? 5 with
  | none => simp [hq'] at h4
  | some i =>
    have hs1 : i.size = 1 := by simpa [hq'] using h4
    rw [run_slice_h (a := A) (len := n) (cap := c) (w := w) (t := 22) (ht := h1) .i64 (q : Int) (by omega) (by omega), h3]
    cases A with
    | none =>
      have := hA rfl
      subst this
      obtain rfl : n = 0 := by omega
      obtain rfl : q = 0 := by omega
      simp [sizeOf, typeInfo, hq', hs1, sliced]
    | some ad =>
      have e4 : ad.add 0 = ad := rfl
      simp [sizeOf, typeInfo, hq', hs1, sliced, e4]
theorem Txt.head {S : Nat → Prop} {w : World} {A : Option Addr} {n c : Nat} {bs : List Nat} (h : Txt S w A n c bs) (q : Nat) (hq : q ≤ n) : Txt S w A q c (bs.take q) := by
  obtain ⟨h1, h2, h3, h4, h5, h6⟩ := h
  refine ⟨⟨take_lt h1.1 q, fun hn => ?_⟩, by rw [List.length_take]; omega, by omega, h4, h5, h6⟩
  rw [List.length_take] at hn
  obtain ⟨ad, e, hlt, hr⟩ := h1.2 (by omega)
  refine ⟨ad, e, hlt, fun j hj => ?_⟩
  rw [List.length_take] at hj
  rw [hr j (by omega), gt_take _ _ _ (by omega)]
theorem Txt.cell {S : Nat → Prop} {w : World} {ad : Addr} {n c : Nat} {bs : List Nat} (h : Txt S w (some ad) n c bs) (j : Nat) (hj : j < n) : w.cell? (ad.add j) = some (.int .u8 (gt bs j : Nat)) := by
  obtain ⟨ad', e, hlt, hr⟩ := h.1.2 (by rw [h.2.1]; omega)
  injection e with e
  subst e
  exact hr j (by rw [h.2.1]; exact hj)
theorem Txt.some {S : Nat → Prop} {w : World} {A : Option Addr} {n c : Nat} {bs : List Nat} (h : Txt S w A n c bs) (hn : 0 < n) : ∃ ad, A = .some ad := by
  obtain ⟨ad, e, _⟩ := h.1.2 (by rw [h.2.1]; omega)
  exact ⟨ad, e⟩

/-- a list of texts: a slice of slices -/
def TxtL (S : Nat → Prop) (w : World) (A : Option Addr) (n c : Nat) (ls : List (List Nat)) : Prop :=
  ls.length = n ∧ n ≤ c ∧ c ≤ 9223372036854775807 ∧ (A = none → c = 0) ∧ (∀ ad, A = some ad → S ad.block ∧ (0 < n → ad.block < w.heap.size)) ∧
  ∀ ad, A = some ad → ∀ j, j < n → ∃ Aj nj cj, w.cell? (ad.add j) = some (.slice Aj nj cj) ∧ Txt S w Aj nj cj (ls.getD j [])
theorem TxtL.nil (S : Nat → Prop) (w : World) : TxtL S w none 0 0 [] := ⟨rfl, Nat.le_refl _, by omega, fun _ => rfl, fun _ e => (by cases e), fun _ e => (by cases e)⟩
theorem TxtL.kept {S : Nat → Prop} {w w' : World} {A : Option Addr} {n c : Nat} {ls : List (List Nat)} (h : TxtL S w A n c ls) (hs : w.heap.size ≤ w'.heap.size) (hc : ∀ b, S b → b < w.heap.size → w'.heap[b]? = w.heap[b]?) : TxtL S w' A n c ls := by
  obtain ⟨h1, h2, h3, h4, h5, h6⟩ := h
  refine ⟨h1, h2, h3, h4, fun ad e => ⟨(h5 ad e).1, fun hn => by have := (h5 ad e).2 hn; omega⟩, fun ad e j hj => ?_⟩
  obtain ⟨Aj, nj, cj, hcell, ht⟩ := h6 ad e j hj
  refine ⟨Aj, nj, cj, ?_, ht.kept hs hc⟩
  have hbl : (ad.add j).block = ad.block := by unfold Addr.add; split <;> rfl
  rw [World.cell?_of_block (hc (ad.add j).block (by rw [hbl]; exact (h5 ad e).1) (by rw [hbl]; exact (h5 ad e).2 (by omega)))]
  exact hcell
theorem TxtL.below {S : Nat → Prop} {w w' : World} {A : Option Addr} {n c : Nat} {ls : List (List Nat)} (h : TxtL S w A n c ls) (hb : Below w.heap.size w w') : TxtL S w' A n c ls :=
  h.kept hb.size fun b _ hlt => hb.block b hlt
theorem TxtL.mono {S S' : Nat → Prop} {w : World} {A : Option Addr} {n c : Nat} {ls : List (List Nat)} (h : TxtL S w A n c ls) (hS : ∀ b, S b → S' b) : TxtL S' w A n c ls := by
  obtain ⟨h1, h2, h3, h4, h5, h6⟩ := h
  refine ⟨h1, h2, h3, h4, fun ad e => ⟨hS _ (h5 ad e).1, (h5 ad e).2⟩, fun ad e j hj => ?_⟩
  obtain ⟨Aj, nj, cj, hcell, ht⟩ := h6 ad e j hj
  exact ⟨Aj, nj, cj, hcell, ht.mono hS⟩
theorem TxtL.any {S : Nat → Prop} {w : World} {A : Option Addr} {n c : Nat} {ls : List (List Nat)} (h : TxtL S w A n c ls) : TxtL Any w A n c ls := h.mono fun _ _ => True.intro
theorem TxtL.some {S : Nat → Prop} {w : World} {A : Option Addr} {n c : Nat} {ls : List (List Nat)} (h : TxtL S w A n c ls) (hn : 0 < n) : ∃ ad, A = .some ad := by
  obtain ⟨h1, h2, h3, h4, h5, h6⟩ := h
  cases A with
  | none => have := h4 rfl; omega
  | some ad => exact ⟨ad, rfl⟩
theorem TxtL.all {S : Nat → Prop} {w : World} {A : Option Addr} {n c : Nat} {ls : List (List Nat)} (h : TxtL S w A n c ls) : ∀ s ∈ ls, ∀ j, gt s j < 256 := by
  intro s hs
  obtain ⟨i, hi, e⟩ := List.getElem_of_mem hs
  have hn : i < n := by rw [← h.1]; exact hi
  obtain ⟨ad, e'⟩ := h.some (by omega)
  obtain ⟨Aj, nj, cj, _, ht⟩ := h.2.2.2.2.2 ad e' i hn
  have : ls.getD i [] = s := by rw [List.getD_eq_getElem?_getD, List.getElem?_eq_getElem hi]; exact e
  rw [← this]; exact ht.lt
end Go.Proofs.YthjoafldndgahaaDoor.Wr
