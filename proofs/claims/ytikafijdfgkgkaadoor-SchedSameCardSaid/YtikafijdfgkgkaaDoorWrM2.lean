/- Walks: lengthAt. Walks: textAt, Clone, GetText. Walks: rows of texts of one's own; textsOf, GetList. Walks: GetList, List. The document's own: length, Text. Walks: head, great. -/
import Derived.Test.YtikafijdfgkgkaaDoorWrM1
import Derived.WalkMore
import Derived.WalkSpells
namespace Go.Proofs.YtikafijdfgkgkaaDoor.Wr
set_option linter.all false
open Go.RowKit

def SayB (r : Nat × Nat × Nat) (w : World) (e : Ending) (w' : World) : Prop := e = .returned (.tuple #[.int .i64 r.1, .int .i64 r.2.1, .int .i64 r.2.2]) ∧ Below w.heap.size w w'
theorem getN_short {b : List Nat} (hb : ∀ j, gt b j < 256) {p k : Nat} (hp : p ≤ b.length) (hk : k = 1 ∨ k = 2 ∨ k = 4) :
    getN b (p : Int) (k : Int) = if b.length < p + k then (0, 0, 111) else (num b p k, p + k, 0) := by
  have h2 : okS (k : Int) = true := by rcases hk with rfl | rfl | rfl <;> rfl
  have h1 : okP b.length (p : Int) = true := by simp [okP]; omega
  unfold getN
  rw [if_neg (by rw [h1, h2]; simp), Int.toNat_natCast, Int.toNat_natCast]
  by_cases h3 : b.length < p + k
  · rw [if_pos h3, if_pos h3]
  · rw [if_neg h3, if_neg h3, if_neg]
    have := num_lt b hb p k (by omega)
    have h4 : 256 ^ k ≤ 256 ^ 4 := Nat.pow_le_pow_right (by omega) (by omega)
    omega
theorem lenAt_big {b : List Nat} {p : Nat} (hp : p < b.length) (h : 192 ≤ gt b p) : lenAt b p = (0, 0, 112) := by
  unfold lenAt; rw [if_neg (by omega), if_pos h]
theorem lenAt_cls {b : List Nat} {p s : Nat} (hp : p < b.length) (h : gt b p < 192) (hs : cls (gt b p) = s) :
    lenAt b p = if b.length < p + s then (0, 0, 111) else if num b p s < least s + mark s then (0, 0, 112) else (num b p s - mark s, p + s, 0) := by
  subst hs
  unfold lenAt; rw [if_neg (by omega), if_neg (by omega)]

theorem part_at (W : World) (g : Nat) (cs : Array Value) (h : W.heap[g]? = some (.cells cs 83 (0, 0))) (hs : cs.size = 4) :
    (partAt ⟨g, 0, none⟩ 3 24).run Tryd.prog W = .ok ⟨g, 3, none⟩ W ∧ (partAt ⟨g, 0, none⟩ 2 16).run Tryd.prog W = .ok ⟨g, 2, none⟩ W := by
  have e1 : Tryd.prog.cellsOf 83 = 4 := by kernel_rfl
  have e2 : byteOfCell Tryd.prog Tryd.prog.depth 83 0 = some 0 := by kernel_rfl
  have e3 : byteOfCell Tryd.prog Tryd.prog.depth 83 3 = some 24 := by kernel_rfl
  have e5 : byteOfCell Tryd.prog Tryd.prog.depth 83 2 = some 16 := by kernel_rfl
  have e4 : Tryd.prog.bytesOf 83 = 32 := by kernel_rfl
  constructor
  · simp [partAt, byteOf, noView, viewAt, World.shape?, h, hs, e1, e2, e3, e4]
  · simp [partAt, byteOf, noView, viewAt, World.shape?, h, hs, e1, e2, e5, e4]

end Go.Proofs.YtikafijdfgkgkaaDoor.Wr

namespace Go.Proofs.YtikafijdfgkgkaaDoor.Wr
set_option linter.all false
open Go.RowKit

theorem okP_true {n : Nat} {x : Int} : okP n x = true ↔ ∃ p : Nat, x = p ∧ p ≤ n := by
  constructor
  · intro h
    have h' : 0 ≤ x ∧ x ≤ n := by simpa [okP] using h
    exact ⟨x.toNat, by omega, by omega⟩
  · rintro ⟨p, rfl, h⟩
    simp [okP]; omega
/-- a part of a text, wherever it ends -/
theorem cut_any {S : Nat → Prop} {w : World} {ad : Addr} {n c : Nat} {bs : List Nat} (h : Txt S w (some ad) n c bs) (p q : Nat) (hpq : p ≤ q) (hq : q ≤ n) :
    ∃ ad' : Addr, (∀ W : World, (Instr.slice 22 (.slice (some ad) n c) (some (.int .i64 (p : Int))) (some (.int .i64 (q : Int))) none).run Tryd.prog W = .ok (.slice (some ad') (q - p) (c - p)) W) ∧ Txt S w (some ad') (q - p) (c - p) (cut bs p q) := by
  have hnc := h.2.2.1
  by_cases hp : p < c
  · exact ⟨_, fun W => run_cut ad n c p q hpq hq hp hnc W, h.part p q hpq hq⟩
  · refine ⟨ad, fun W => ?_, ?_⟩
    · have h1 : Tryd.prog.underlying 22 = some (.slice (Tryd.prog.elem 22)) := by kernel_rfl
      have h3 : Tryd.prog.elem 22 = 5 := by kernel_rfl
      have h4 : (Tryd.prog.info? 5).map (·.size) = some 1 := by kernel_rfl
      obtain rfl : p = c := by omega
      cases hq' : Tryd.prog.info? 5 with
      | none => simp [hq'] at h4
      | some i =>
        have hs1 : i.size = 1 := by simpa [hq'] using h4
        rw [run_slice_lh (a := some ad) (len := n) (cap := p) (w := W) (t := 22) (ht := h1) .i64 .i64 (p : Int) (q : Int) (by omega) (by omega) (by omega), h3]
        have e4 : ad.add 0 = ad := rfl
        simp [sizeOf, typeInfo, hq', hs1, sliced, e4]
    · obtain rfl : p = q := by omega
      rw [Nat.sub_self]
      have hc : cut bs p p = [] := by unfold cut; simp
      rw [hc]
      exact ⟨Rd.nil _ _ _, rfl, Nat.zero_le _, by have := h.2.2.2.1; omega, fun e => (by cases e), h.2.2.2.2.2⟩

/-- a text got -/
def GotT (r : List Nat × Nat × Nat) (w : World) (e : Ending) (w' : World) : Prop :=
  ∃ A n c, e = .returned (.tuple #[.slice A n c, .int .i64 r.2.1, .int .i64 r.2.2]) ∧ Txt (New w.heap.size w') w' A n c r.1 ∧ Below w.heap.size w w'
theorem txI_zero_of {b : List Nat} {x : Int} (h : (txI b x).2.2 ≠ 0) : (txI b x).1 = 0 ∧ (txI b x).2.1 = 0 := by
  unfold txI at h ⊢
  by_cases h1 : x < 0 ∨ (b.length : Int) < x
  · rw [if_pos h1]; exact ⟨rfl, rfl⟩
  rw [if_neg h1] at h ⊢
  unfold txAt at h ⊢
  split
  · exact ⟨rfl, rfl⟩
  split
  · exact ⟨rfl, rfl⟩
  split
  · exact ⟨rfl, rfl⟩
  · rename_i h2 h3 h4
    rw [if_neg h2, if_neg h3, if_neg h4] at h; exact absurd rfl h
theorem txI_ok {b : List Nat} (hb : ∀ j, gt b j < 256) {x : Int} (h : (txI b x).2.2 = 0) : 0 < (txI b x).1 ∧ (txI b x).1 ≤ (txI b x).2.1 ∧ (txI b x).2.1 ≤ b.length := by
  unfold txI at h ⊢
  by_cases h1 : x < 0 ∨ (b.length : Int) < x
  · rw [if_pos h1] at h; cases h
  rw [if_neg h1] at h ⊢
  obtain ⟨k1, k2, k3, -, -⟩ := txAt_ok hb h
  exact ⟨by omega, k2, k3⟩
end Go.Proofs.YtikafijdfgkgkaaDoor.Wr

namespace Go.Proofs.YtikafijdfgkgkaaDoor.Wr
set_option linter.all false
open Go.RowKit

/-- a row of texts of one's own, which lie in other blocks -/
def OwnL (w : World) (base : Nat) (v : Value) (n : Nat) (ls : List (List Nat)) : Prop :=
  ∃ vs : List Value, w.ownsRow base 22 1 v n vs ∧ ls.length = n ∧ ∀ j, j < n → ∃ Aj nj cj, vs[j]? = some (.slice Aj nj cj) ∧ Txt (fun b => base ≤ b ∧ b < w.heap.size ∧ v.ownBlock ≠ some b) w Aj nj cj (ls.getD j [])
theorem OwnL.nil (w : World) (base : Nat) : OwnL w base (.slice none 0 0) 0 [] := ⟨[], ⟨rfl, .inl ⟨rfl, rfl⟩⟩, rfl, fun j h => by omega⟩
theorem OwnL.slice {w : World} {base n : Nat} {v : Value} {ls : List (List Nat)} (h : OwnL w base v n ls) : ∃ A c, v = .slice A n c := by
  obtain ⟨vs, ho, _⟩ := h
  rcases ho.2 with ⟨e, h0⟩ | ⟨g, c, cur, e, _⟩
  · subst h0; exact ⟨_, _, e⟩
  · exact ⟨_, _, e⟩
theorem OwnL.lt {w : World} {base n g : Nat} {v : Value} {ls : List (List Nat)} (h : OwnL w base v n ls) (hg : v.ownBlock = some g) : base ≤ g ∧ g < w.heap.size := by
  obtain ⟨vs, ho, _⟩ := h
  exact ho.lt g hg
theorem own_below22 {w w' : World} {base n : Nat} {v : Value} {xs : List Value} (h : w.ownsRow base 22 1 v n xs) (hb : Below w.heap.size w w') : w'.ownsRow base 22 1 v n xs := by
  refine h.kept (row := none) ⟨hb.os, hb.tape, hb.output, hb.size, fun i hi _ => hb.block i hi⟩ ?_
  cases hq : v.ownBlock with
  | none => exact .inl rfl
  | some g => exact .inr (by simp)
theorem OwnL.below {w w' : World} {base n : Nat} {v : Value} {ls : List (List Nat)} (h : OwnL w base v n ls) (hb : Below w.heap.size w w') : OwnL w' base v n ls := by
  obtain ⟨vs, ho, hl, ht⟩ := h
  refine ⟨vs, own_below22 ho hb, hl, fun j hj => ?_⟩
  obtain ⟨Aj, nj, cj, hv, hT⟩ := ht j hj
  exact ⟨Aj, nj, cj, hv, (hT.below hb).mono fun b hb' => ⟨hb'.1, Nat.lt_of_lt_of_le hb'.2.1 hb.size, hb'.2.2⟩⟩
theorem OwnL.toL {w : World} {base n c : Nat} {A : Option Addr} {ls : List (List Nat)} (h : OwnL w base (.slice A n c) n ls) : TxtL (New base w) w A n c ls := by
  obtain ⟨vs, ho, hl, ht⟩ := h
  have ho' := ho
  rcases ho.2 with ⟨e, h0⟩ | ⟨g, cap, cur, e, hg, hc, h1, h2, h3, h4⟩
  · injection e with e1 e2 e3
    subst e1 e2 e3
    obtain rfl : ls = [] := List.eq_nil_of_length_eq_zero hl
    exact TxtL.nil _ _
  · injection e with e1 e2 e3
    subst e1 e3
    have hlt := ho'.lt g rfl
    refine ⟨hl, h1, h2, fun e => (by cases e), fun ad e => ?_, fun ad e j hj => ?_⟩
    · injection e with e
      subst e
      exact ⟨⟨hlt.1, hlt.2⟩, fun _ => hlt.2⟩
    · injection e with e
      subst e
      obtain ⟨Aj, nj, cj, hv, hT⟩ := ht j hj
      refine ⟨Aj, nj, cj, ?_, hT.mono fun b hb => ⟨hb.1, hb.2.1⟩⟩
      have ha : (⟨g, 0, none⟩ : Addr).add j = ⟨g, j, none⟩ := by unfold Addr.add; split <;> simp_all
      rw [ha, cell_of_row w g j cur 22 (0, 0) hc]
      rw [← h4, List.getElem?_take_of_lt (by omega), Array.getElem?_toList] at hv
      exact hv
theorem textInfo : ∃ i : TypeInfo, Tryd.prog.info? 22 = some i ∧ i.zero = some (.slice none 0 0) ∧ i.size = 1 ∧ i.bytes = 24 := by
  have h : (Tryd.prog.info? 22).map (fun i => (i.zero, i.size, i.bytes)) = some (some (.slice none 0 0), 1, 24) := by kernel_rfl
  obtain ⟨i, hi, e⟩ := Option.map_eq_some_iff.1 h
  simp only [Prod.mk.injEq] at e
  exact ⟨i, hi, e.1, e.2.1, e.2.2⟩
theorem run_append_one {w : World} (base k n c h : Nat) (ty : TypeId) (v : Value) (ls : List (List Nat)) (s : List Nat) (A : Option Addr) (hO : OwnL w base v k ls)
    (hT : Txt (fun b => base ≤ b ∧ b < w.heap.size ∧ v.ownBlock ≠ some b) w A n c s) (hh : w.cell? ⟨h, 0, none⟩ = some (.slice A n c)) (hk : k ≤ 8388608) (hbase : base ≤ w.heap.size) :
    ∃ v' w', (Builtin.append_ #[52, 52] ty #[v, .slice (some ⟨h, 0, none⟩) 1 1]).run Tryd.prog w = .ok v' w' ∧ OwnL w' base v' (k + 1) (ls ++ [s]) ∧ w.grownBy w' v.ownBlock := by
  obtain ⟨i, hi, hz, hsz, hby⟩ := textInfo
  obtain ⟨vs, ho, hl, ht⟩ := hO
  obtain ⟨v', w', hrun, h1, h2, h3, h4⟩ := run_append_own_at (P := Tryd.prog) w base 52 ty 22 i (.slice none 0 0) 1 24 Tryd.underlying52 hi hz hsz hby rfl (by omega) _ k vs ho ⟨h, 0, none⟩ 1 1 [.slice A n c] rfl
    (fun j u hu => by
      cases j with
      | zero => simp at hu; subst hu; exact hh
      | succ j => simp at hu)
    (fun u hu => by simp at hu; subst hu; rfl) (by unfold maxLen; omega) (by omega) hbase
  refine ⟨v', w', hrun, ⟨_, h1, by rw [List.length_append, hl]; rfl, fun j hj => ?_⟩, h2⟩
  have hvl : vs.length = k := by have := ho.1; omega
  have hS : ∀ b, (base ≤ b ∧ b < w.heap.size ∧ v.ownBlock ≠ some b) → base ≤ b ∧ b < w'.heap.size ∧ v'.ownBlock ≠ some b := by
    intro b hb
    refine ⟨hb.1, Nat.lt_of_lt_of_le hb.2.1 h2.size, ?_⟩
    rcases h4 with h4 | h4
    · rw [h4]; exact hb.2.2
    · rw [h4]; intro e; injection e with e; omega
  have hkeep : ∀ {A' n' c' s'}, Txt (fun b => base ≤ b ∧ b < w.heap.size ∧ v.ownBlock ≠ some b) w A' n' c' s' → Txt (fun b => base ≤ b ∧ b < w'.heap.size ∧ v'.ownBlock ≠ some b) w' A' n' c' s' := fun hT' =>
    (hT'.kept h2.size fun b hb hlt => h2.block b hlt (fun e => hb.2.2 e.symm)).mono hS
  by_cases hj' : j < k
  · obtain ⟨Aj, nj, cj, hv, hT'⟩ := ht j hj'
    refine ⟨Aj, nj, cj, by rw [List.getElem?_append_left (by omega)]; exact hv, ?_⟩
    have e : (ls ++ [s]).getD j [] = ls.getD j [] := by
      rw [List.getD_eq_getElem?_getD, List.getD_eq_getElem?_getD, List.getElem?_append_left (by omega)]
    rw [e]; exact hkeep hT'
  · obtain rfl : j = k := by omega
    refine ⟨A, n, c, by rw [List.getElem?_append_right (by omega), hvl]; simp, ?_⟩
    have e : (ls ++ [s]).getD j [] = s := by
      rw [List.getD_eq_getElem?_getD, List.getElem?_append_right (by omega), hl]; simp
    rw [e]; exact hkeep hT
theorem wpList_append_one {ops : Array Oper} {rest : List Oper} {o : Oper} {a : Act} {w : World} {Q : Exit → Act → World → Prop} (hgd : o.guard = none) (s x : Operand)
    (ho : o.op = .call { callee := .builtin .append, args := #[s, x], argTypes := #[52, 52] }) (base k n c h : Nat) (v : Value) (ls : List (List Nat)) (t : List Nat) (A : Option Addr)
    (hs : a.eval s = v) (hx : a.eval x = .slice (some ⟨h, 0, none⟩) 1 1) (hO : OwnL w base v k ls) (hT : Txt (fun b => base ≤ b ∧ b < w.heap.size ∧ v.ownBlock ≠ some b) w A n c t)
    (hh : w.cell? ⟨h, 0, none⟩ = some (.slice A n c)) (hk : k ≤ 8388608) (hbase : base ≤ w.heap.size)
    (kk : ∀ v' w', OwnL w' base v' (k + 1) (ls ++ [t]) → w.grownBy w' v.ownBlock → wpList Tryd.prog ops Q rest (a.put o.dst v') w') :
    wpList Tryd.prog ops Q (o :: rest) a w := by
  refine wpList_plain hgd fun K hK => ?_
  obtain ⟨v', w', hrun, h1, h2⟩ := run_append_one base k n c h o.type v ls t A hO hT hh hk hbase
  unfold Oper.wp execOp
  simp only [ho, resolve, invoke, builtin, Sem.run_bind, Sem.run_pure, Result.andThen_ok, List.map_toArray, List.map_cons, List.map_nil, hs, hx, hrun]
  exact hK _ _ (kk v' w' h1 h2)
theorem below_ownL {w w1 w2 : World} {v : Value} {base n : Nat} {ls : List (List Nat)} (h : Below w.heap.size w w1) (ho : OwnL w1 base v n ls) (hb : w.heap.size ≤ base) (k : w1.grownBy w2 v.ownBlock) : Below w.heap.size w w2 := by
  refine ⟨k.os.trans h.os, k.tape.trans h.tape, k.output.trans h.output, Nat.le_trans h.size k.size, fun i hi => (k.block i (Nat.lt_of_lt_of_le hi h.size) ?_).trans (h.block i hi)⟩
  intro e
  have := (ho.lt e.symm).1
  omega

/-- a list told, with an error -/
def GotLE (r : List (List Nat) × Nat) (w : World) (e : Ending) (w' : World) : Prop :=
  ∃ A n c, e = .returned (.tuple #[.slice A n c, .int .i64 r.2]) ∧ TxtL (New w.heap.size w') w' A n c r.1 ∧ Below w.heap.size w w'
theorem getT_ok {b : List Nat} (hb : ∀ j, gt b j < 256) {p : Nat} (hp : p ≤ b.length) (h : (getT b p).2.2 = 0) : p < (getT b p).2.1 ∧ (getT b p).2.1 ≤ b.length ∧ (txAt b p).2.2 = 0 := by
  unfold getT at h ⊢
  rw [txI_nat _ _ hp] at h ⊢
  by_cases h1 : (txAt b p).2.2 ≠ 0
  · rw [if_pos h1] at h; exact absurd h h1
  rw [if_neg h1] at h ⊢
  obtain ⟨k1, k2, k3, -, -⟩ := txAt_ok hb (by omega : (txAt b p).2.2 = 0)
  refine ⟨?_, k3, by omega⟩
  show p < (txAt b p).2.1
  omega
theorem txs_step {b : List Nat} {p f : Nat} {acc : List (List Nat)} (hp : p < b.length) (hf : b.length - p ≤ f) :
    txs b f p acc = if (getT b p).2.2 ≠ 0 then ([], (getT b p).2.2) else txs b (f - 1) (getT b p).2.1 (acc ++ [(getT b p).1]) := by
  obtain ⟨f', rfl⟩ : ∃ f', f = f' + 1 := ⟨f - 1, by omega⟩
  rw [Nat.add_sub_cancel]
  unfold getT
  rw [txI_nat _ _ (by omega)]
  conv => lhs; unfold txs
  rw [if_neg (by omega)]
  by_cases h1 : (txAt b p).2.2 ≠ 0
  · rw [if_pos h1, if_pos h1]
    rw [if_pos h1]
  · rw [if_neg h1, if_neg h1]
    rw [if_neg (by simp)]
theorem txs_end {b : List Nat} {p f : Nat} {acc : List (List Nat)} (hp : b.length ≤ p) : txs b f p acc = (acc, 0) := by
  cases f with
  | zero => rfl
  | succ f => unfold txs; rw [if_pos hp]

end Go.Proofs.YtikafijdfgkgkaaDoor.Wr

namespace Go.Proofs.YtikafijdfgkgkaaDoor.Wr
set_option linter.all false
open Go.RowKit

/-- a list got -/
def GotL (r : List (List Nat) × Nat × Nat) (w : World) (e : Ending) (w' : World) : Prop :=
  ∃ A n c, e = .returned (.tuple #[.slice A n c, .int .i64 r.2.1, .int .i64 r.2.2]) ∧ TxtL (New w.heap.size w') w' A n c r.1 ∧ Below w.heap.size w w'
theorem cat_take_succ (ls : List (List Nat)) (k : Nat) (h : k < ls.length) : cat (ls.take (k + 1)) = cat (ls.take k) ++ txB (ls.getD k []) := by
  rw [List.take_succ_eq_append_getElem h, cat_append, cat_one, List.getD_eq_getElem?_getD, List.getElem?_eq_getElem h]; rfl
theorem cat_take_le (ls : List (List Nat)) (k : Nat) : (cat (ls.take k)).length ≤ (cat ls).length := by
  conv => rhs; rw [← List.take_append_drop k ls]
  rw [cat_append, List.length_append]; omega
theorem putT_no {s : List Nat} (h : ¬ s.length ≤ 1048576) : putT s = ([], 2) := by unfold putT; rw [if_pos (by omega)]
theorem putT_yes {s : List Nat} (h : s.length ≤ 1048576) : putT s = (txB s, 0) := by unfold putT; rw [if_neg (by omega)]
theorem putL_no {ls : List (List Nat)} (h : 1048576 < (cat ls).length) : putL ls = ([], 2) := by unfold putL; rw [if_pos h]
theorem own_gen {w w' : World} {base n : Nat} {v : Value} {xs : List Value} (h : w.ownsRow base 5 1 v n xs) (hb : Below w.heap.size w w') : w'.ownsRow base 5 1 v n xs := by
  refine h.kept (row := none) ⟨hb.os, hb.tape, hb.output, hb.size, fun i hi _ => hb.block i hi⟩ ?_
  cases hq : v.ownBlock with
  | none => exact .inl rfl
  | some g => exact .inr (by simp)
theorem txtL_at {S : Nat → Prop} {w : World} {ad : Addr} {n c : Nat} {ls : List (List Nat)} (h : TxtL S w (some ad) n c ls) (j : Nat) (hj : j < n) :
    ∃ Aj nj cj, w.cell? (ad.add j) = some (.slice Aj nj cj) ∧ Txt S w Aj nj cj (ls.getD j []) := h.2.2.2.2.2 ad rfl j hj

end Go.Proofs.YtikafijdfgkgkaaDoor.Wr

namespace Go.Proofs.YtikafijdfgkgkaaDoor.Wr
set_option linter.all false
open Go.RowKit

/-- bytes in a row of the call's own -/
def Laid (l : List Nat) (w : World) (e : Ending) (w' : World) : Prop :=
  ∃ h cap, e = .returned (.slice (some ⟨h, 0, none⟩) l.length cap) ∧ w'.ownsRow w.heap.size 5 1 (.slice (some ⟨h, 0, none⟩) l.length cap) l.length (bcells l) ∧ Below w.heap.size w w'
theorem laid_built (w : World) (l : List Nat) (cs : Array Value) (n : Nat) (hl : l.length = n) (hc : cs = (bcells l).toArray) (hm : n ≤ 1000) :
    (w.alloc (.cells cs 5)).ownsRow w.heap.size 5 1 (.slice (some ⟨w.heap.size, 0, none⟩) n n) n (bcells l) := by
  subst hc hl
  exact ⟨by rw [bcells_len, Nat.mul_one], .inr ⟨w.heap.size, l.length, _, rfl, Nat.le_refl _, heap_alloc_last w _, Nat.le_refl _, by unfold maxLen; omega, by simp [bcells_len], by simp [bcells_len, List.take_of_length_le]⟩⟩
theorem be1 (n : Nat) : be 1 n = [n % 256] := by simp [be]
theorem be2 (n : Nat) : be 2 n = [n / 256 % 256, n % 256] := by simp [be]
theorem be4 (n : Nat) : be 4 n = [n / 16777216 % 256, n / 65536 % 256, n / 256 % 256, n % 256] := by simp [be]
theorem cells1 {a : Int} {x : Nat} (h : a = x) : (#[.int .u8 a] : Array Value) = (bcells [x]).toArray := by subst h; rfl
theorem cells2 {a b : Int} {x y : Nat} (h : a = x) (h2 : b = y) : (#[.int .u8 a, .int .u8 b] : Array Value) = (bcells [x, y]).toArray := by subst h h2; rfl
theorem cells4 {a b c d : Int} {x y z u : Nat} (h : a = x) (h2 : b = y) (h3 : c = z) (h4 : d = u) : (#[.int .u8 a, .int .u8 b, .int .u8 c, .int .u8 d] : Array Value) = (bcells [x, y, z, u]).toArray := by subst h h2 h3 h4; rfl

set_option maxHeartbeats 2000000 in
set_option maxRecDepth 100000 in
/-- of any number below 2^30 -/
theorem rlength_any (n : Nat) (w : World) (hn : n < 1073741824) (r : List Nat) (hr : Hid (lenB n = r)) :
    Calls Tryd.prog 56 #[.int .i64 n] w (Laid r w) := by
  by_cases h1 : n < 64
  · obtain rfl : r = [n] := by rw [← hr.out]; unfold lenB szB mark; rw [if_pos h1]; simp [be1]; omega
    have y1 : (n : Int) < 64 := by omega
    have HN := Lib.hid h1; clear h1 hn hr
    go_enter Tryd.func56, Tryd.ntmps56
    go_wp2
    go_ret
    exact ⟨_, _, rfl, laid_built w [n] _ 1 rfl (cells1 (by have := HN.out; omega)) (by omega), (Below.refl _ _).alloc (Nat.le_refl _) _⟩
  by_cases h2 : n < 16384
  · obtain ⟨x, hx, hx'⟩ : ∃ x : Nat, n / 256 + 64 = x ∧ x < 128 := ⟨_, rfl, by omega⟩
    obtain ⟨y, hy, hy'⟩ : ∃ y : Nat, n % 256 = y ∧ y < 256 := ⟨_, rfl, by omega⟩
    obtain rfl : r = [x, y] := by
      rw [← hr.out]; unfold lenB szB mark; rw [if_neg h1, if_pos h2]
      show be 2 (n + 16384) = _
      rw [be2]
      congr 1
      · omega
      · congr 1; omega
    have y1 : ¬ (n : Int) < 64 := by omega
    have y2 : (n : Int) < 16384 := by omega
    have HXX := Lib.hid hx; have HYY := Lib.hid hy; have H1 := Lib.hid h1; have H2 := Lib.hid h2
    clear h1 h2 hn hr hx hy hx' hy'
    go_enter Tryd.func56, Tryd.ntmps56
    go_wp2
    go_ret
    exact ⟨_, _, rfl, laid_built w [x, y] _ 2 rfl (cells2 (by have := HXX.out; have := H2.out; omega) (by have := HYY.out; omega)) (by omega), (Below.refl _ _).alloc (Nat.le_refl _) _⟩
  · obtain ⟨x, hx⟩ : ∃ x : Nat, n / 16777216 + 128 = x := ⟨_, rfl⟩
    obtain ⟨y, hy⟩ : ∃ y : Nat, n / 65536 % 256 = y := ⟨_, rfl⟩
    obtain ⟨z, hz⟩ : ∃ z : Nat, n / 256 % 256 = z := ⟨_, rfl⟩
    obtain ⟨u, hu⟩ : ∃ u : Nat, n % 256 = u := ⟨_, rfl⟩
    obtain rfl : r = [x, y, z, u] := by
      rw [← hr.out]; unfold lenB szB mark; rw [if_neg h1, if_neg h2]
      show be 4 (n + 2147483648) = _
      rw [be4]
      congr 1
      · omega
      · congr 1
        · omega
        · congr 1
          · omega
          · congr 1; omega
    have y1 : ¬ (n : Int) < 64 := by omega
    have y2 : ¬ (n : Int) < 16384 := by omega
    have HXX := Lib.hid hx; have HYY := Lib.hid hy; have HZZ := Lib.hid hz; have HUU := Lib.hid hu; have HNN := Lib.hid hn
    clear h1 h2 hn hr hx hy hz hu
    go_enter Tryd.func56, Tryd.ntmps56
    go_wp2
    go_ret
    exact ⟨_, _, rfl, laid_built w [x, y, z, u] _ 4 rfl (cells4 (by have := HXX.out; have := HNN.out; omega) (by have := HYY.out; omega) (by have := HZZ.out; omega) (by have := HUU.out; omega)) (by omega), (Below.refl _ _).alloc (Nat.le_refl _) _⟩

set_option maxHeartbeats 2000000 in
set_option maxRecDepth 100000 in
theorem rtext_any (A : Option Addr) (s : List Nat) (n c : Nat) (w : World) (hA : Txt Any w A n c s) (r : List Nat × Nat) (hr : Hid (putT s = r)) :
    Calls Tryd.prog 43 #[.slice A n c] w (ToldE r w) := by
  have hl := hA.len
  have HA := Lib.hid hA
  by_cases h : 1048576 < n
  · have HR : Hid (([], 2) = r) := Lib.hid (by rw [← hr.out]; unfold putT; rw [hl, if_pos h])
    have y1 : (1048576 : Int) < (n : Int) := by omega
    go_enter Tryd.func43, Tryd.ntmps43
    go_wp2
    go_ret2
    rw [← HR.out]
    exact ⟨_, _, _, rfl, Txt.nil _ _, Below.refl _ _⟩
  · have HR : Hid ((lenB n ++ s, 0) = r) := Lib.hid (by rw [← hr.out]; unfold putT txB; rw [hl, if_neg h])
    have y1 : ¬ (1048576 : Int) < (n : Int) := by omega
    obtain ⟨k, hk, hk4⟩ : ∃ k, (lenB n).length = k ∧ k ≤ 4 := ⟨_, rfl, by rw [lenB_len]; exact (szB_pos n).2⟩
    have HLT := Lib.hid (lenB_lt n)
    obtain ⟨l, hl2⟩ : ∃ l, lenB n = l := ⟨_, rfl⟩
    have HLN := Lib.hid hl2
    rw [hl2] at hk HLT HR
    clear hl2
    go_enter Tryd.func43, Tryd.ntmps43
    go_wp2_with fail
    refine (rlength_any n w (by omega) l HLN).mono ?_
    rintro e' w1 ⟨h1, cap1, rfl, hO, hB⟩
    rw [hk] at hO ⊢
    have HO := Lib.hid hO; have HB := Lib.hid hB; clear hO hB hk
    have HA1 := Lib.hid (HA.out.below HB.out)
    go_wp2_with (at_builtin; refine wpList_append_txt rfl (.tmp 9) (.tmp 10) rfl w.heap.size k n c _ l s A Any rfl rfl HO.out HA1.out (by omega) HB.out.size ?_)
    intro v' W2 hown hgrow hat
    obtain ⟨C', c', rfl⟩ := own_slice_of hown
    have HB3 := Lib.hid (below_own HB.out HO.out (Nat.le_refl _) hgrow)
    obtain ⟨A', c'', e, hX⟩ := Txt.of_own hown (gt_append_lt HLT.out HA.out.lt)
    injection e with e1 _ e3
    subst e1 e3
    have HX := Lib.hid hX; clear hX hown hgrow hat
    go_wp2
    go_ret2
    rw [← HR.out]
    exact ⟨_, _, _, rfl, HX.out, HB3.out⟩
end Go.Proofs.YtikafijdfgkgkaaDoor.Wr

namespace Go.Proofs.YtikafijdfgkgkaaDoor.Wr
set_option linter.all false
open Go.RowKit

theorem built (w : World) (l : List Nat) (cs : Array Value) (fr : Nat × Nat) (n : Nat) (hl : l.length = n) (hx : ∀ j, gt l j < 256) (hc : ∀ j, j < n → cs[j]? = some (.int .u8 ((gt l j : Nat) : Int))) (hn : n ≤ 1000) :
    Txt Any (w.alloc (.cells cs 5 fr)) (some ⟨w.heap.size, 0, none⟩) n n l := by
  refine ⟨⟨hx, fun _ => ⟨_, rfl, by simp, fun j hj => ?_⟩⟩, hl, Nat.le_refl _, by omega, fun e => (by cases e), fun _ _ => True.intro⟩
  have ha : (⟨w.heap.size, 0, none⟩ : Addr).add j = ⟨w.heap.size, j, none⟩ := by unfold Addr.add; split <;> simp_all
  rw [ha, cell_of_row _ _ j _ 5 fr (heap_alloc_last w _)]
  exact hc j (by omega)
theorem three {P : Nat → Prop} {n : Nat} (hn : n ≤ 3) (h0 : P 0) (h1 : P 1) (h2 : P 2) : ∀ j, j < n → P j := by
  intro j hj
  match j, hj with
  | 0, _ => exact h0
  | 1, _ => exact h1
  | 2, _ => exact h2
  | j + 3, h => omega
theorem two {P : Nat → Prop} {n : Nat} (hn : n ≤ 2) (h0 : P 0) (h1 : P 1) : ∀ j, j < n → P j := by
  intro j hj
  match j, hj with
  | 0, _ => exact h0
  | 1, _ => exact h1
  | j + 2, h => omega
theorem headA : putT [97, 98] = ([2, 97, 98], 0) := by decide +kernel
theorem headB : getT [64, 1, 97] 0 = ([], 0, 112) := by decide +kernel
theorem headC : numB 258 2 = [1, 2] := by decide +kernel
theorem headD : numB 256 1 = [] := by decide +kernel

end Go.Proofs.YtikafijdfgkgkaaDoor.Wr
