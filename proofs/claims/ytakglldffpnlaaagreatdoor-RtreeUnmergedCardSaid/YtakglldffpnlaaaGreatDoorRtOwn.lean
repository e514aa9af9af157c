/- Rows of ints of one's own. -/
import Derived.Test.YtakglldffpnlaaaGreatDoorRtMem
namespace Go.Proofs.YtakglldffpnlaaaGreatDoor.Rt
set_option linter.all false
open Go.RowKit
open Wr (Txt Any New)

def icells (xs : List Int) : List Value := xs.map (Value.int .i64)
theorem icells_len (xs : List Int) : (icells xs).length = xs.length := by simp [icells]
theorem icells_one (xs : List Int) : ∀ u ∈ icells xs, u.oneCell' = true := by
  intro u hu
  obtain ⟨x, _, rfl⟩ := List.mem_map.1 hu
  rfl
theorem icells_at (xs : List Int) (i : Nat) (h : i < xs.length) : (icells xs)[i]? = some (.int .i64 (gi xs i)) := by
  simp [icells, gi, List.getD_eq_getElem?_getD, h]
theorem icells_append (a b : List Int) : icells (a ++ b) = icells a ++ icells b := by simp [icells]
theorem intInfo : ∃ i : TypeInfo, Tryz.prog.info? 3 = some i ∧ i.zero = some (.int .i64 0) ∧ i.size = 1 ∧ i.bytes = 8 := by
  have h : (Tryz.prog.info? 3).map (fun i => (i.zero, i.size, i.bytes)) = some (some (.int .i64 0), 1, 8) := by kernel_rfl
  obtain ⟨i, hi, e⟩ := Option.map_eq_some_iff.1 h
  simp only [Prod.mk.injEq] at e
  exact ⟨i, hi, e.1, e.2.1, e.2.2⟩
/-- whatever row of one's own -/
theorem own_belowG {w w' : World} {base e sz n : Nat} {v : Value} {xs : List Value} (h : w.ownsRow base e sz v n xs) (hb : Below w.heap.size w w') : w'.ownsRow base e sz v n xs := by
  refine h.kept (row := none) ⟨hb.os, hb.tape, hb.output, hb.size, fun i hi _ => hb.block i hi⟩ ?_
  cases hq : v.ownBlock with
  | none => exact .inl rfl
  | some g => exact .inr (by simp)
theorem below_ownG {w w1 w2 : World} {v : Value} {base e sz n : Nat} {xs : List Value} (h : Below w.heap.size w w1) (ho : w1.ownsRow base e sz v n xs) (hb : w.heap.size ≤ base) (k : w1.grownBy w2 v.ownBlock) : Below w.heap.size w w2 := by
  refine ⟨k.os.trans h.os, k.tape.trans h.tape, k.output.trans h.output, Nat.le_trans h.size k.size, fun i hi => (k.block i (Nat.lt_of_lt_of_le hi h.size) ?_).trans (h.block i hi)⟩
  rcases ho.2 with ⟨e, _⟩ | ⟨g, c, cur, e, hg, _⟩
  · subst e; intro e; cases e
  · subst e; intro e; injection e with e; have : i = g := e; omega
theorem own_sliceG {w : World} {base e sz n : Nat} {v : Value} {xs : List Value} (h : w.ownsRow base e sz v n xs) : ∃ A c, v = .slice A n c := by
  rcases h.2 with ⟨e, h0⟩ | ⟨g, c, cur, e, _⟩
  · subst h0; exact ⟨_, _, e⟩
  · exact ⟨_, _, e⟩
theorem Ints.of_own {base n c : Nat} {w : World} {A : Option Addr} {xs : List Int} (h : w.ownsRow base 3 1 (.slice A n c) n (icells xs)) : Ints (New base w) w A n c xs := by
  have h0 := h
  have hl : xs.length = n := by have := h.1; rw [icells_len] at this; omega
  rcases h.2 with ⟨e, h1⟩ | ⟨g, c', cur, e, hg, hc, h1, h2, h3, h4⟩
  · injection e with e1 e2 e3
    subst e1 e2 e3
    obtain rfl : xs = [] := List.eq_nil_of_length_eq_zero hl
    exact Ints.nil _ _
  · injection e with e1 e2 e3
    subst e1 e3
    have hlt := h0.lt g rfl
    refine ⟨hl, h1, h2, fun e => (by cases e), fun ad e => ?_, fun ad e j hj => ?_⟩
    · injection e with e
      subst e
      exact ⟨⟨hlt.1, hlt.2⟩, fun _ => hlt.2⟩
    · injection e with e
      subst e
      have ha : (⟨g, 0, none⟩ : Addr).add j = ⟨g, j, none⟩ := by unfold Addr.add; split <;> simp_all
      rw [ha, h0.cellAt j (by omega), icells_at xs j (by omega)]
theorem Ints.news {S : Nat → Prop} {w : World} {ad : Addr} {n c : Nat} {xs : List Int} (h : Ints S w (.some ad) n c xs) : ∀ j u, (icells xs)[j]? = .some u → w.cell? (ad.add j) = .some u := by
  intro j u hu
  have hj : j < xs.length := by
    rcases Nat.lt_or_ge j xs.length with h | h
    · exact h
    · rw [List.getElem?_eq_none (by rw [icells_len]; omega)] at hu; cases hu
  rw [icells_at xs j hj] at hu
  rw [h.cell j (by rw [← h.len]; exact hj), ← hu]
theorem run_append_ints {w : World} (base n m c : Nat) (ty : TypeId) (v : Value) (xs ys : List Int) (A : Option Addr) (S : Nat → Prop) (hown : w.ownsRow base 3 1 v n (icells xs))
    (hT : Ints S w A m c ys) (hbd : n + m ≤ 17592186044416) (hbase : base ≤ w.heap.size) :
    ∃ v' w', (Builtin.append_ #[26, 26] ty #[v, .slice A m c]).run Tryz.prog w = .ok v' w' ∧ w'.ownsRow base 3 1 v' (n + m) (icells (xs ++ ys)) ∧ w.grownBy w' v.ownBlock ∧ (v'.ownBlock = v.ownBlock ∨ v'.ownBlock = some w.heap.size) := by
  obtain ⟨i, hi, hz, hsz, hby⟩ := intInfo
  cases A with
  | none =>
    have hc0 := hT.2.2.2.1 rfl
    have hm := hT.2.1
    obtain rfl : m = 0 := by omega
    have hy : ys = [] := List.eq_nil_of_length_eq_zero hT.len
    subst hy hc0
    exact ⟨v, w, run_append_owned_none (P := Tryz.prog) (w := w) base 26 ty 3 i 1 Tryz.underlying26 hi _ n (icells xs) hown, by simpa using hown, World.grownBy.refl _ _, .inl rfl⟩
  | some ad =>
    obtain ⟨v', w', hrun, h1, h2, h3, h4⟩ := run_append_own_at (P := Tryz.prog) w base 26 ty 3 i (.int .i64 0) 1 8 Tryz.underlying26 hi hz hsz hby rfl (by omega) _ n (icells xs) hown ad m c (icells ys) (by rw [icells_len, hT.len]; omega)
      hT.news (icells_one ys) (by unfold maxLen; omega) (by omega) hbase
    rw [← icells_append] at h1
    exact ⟨v', w', hrun, h1, h2, h4⟩
theorem wp_append_ints {o : Oper} {a : Act} {w : World} {K : Act → World → Prop} {Q : Exit → Act → World → Prop} (s x : Operand)
    (ho : o.op = .call { callee := .builtin .append, args := #[s, x], argTypes := #[26, 26] }) (base n m c : Nat) (v : Value) (xs ys : List Int) (A : Option Addr) (S : Nat → Prop)
    (hs : a.eval s = v) (hx : a.eval x = .slice A m c) (hown : w.ownsRow base 3 1 v n (icells xs)) (hT : Ints S w A m c ys) (hbd : n + m ≤ 17592186044416) (hbase : base ≤ w.heap.size)
    (k : ∀ v' w', w'.ownsRow base 3 1 v' (n + m) (icells (xs ++ ys)) → w.grownBy w' v.ownBlock → (v'.ownBlock = v.ownBlock ∨ v'.ownBlock = some w.heap.size) → K (a.put o.dst v') w') :
    Oper.wp Tryz.prog o a w K Q := by
  obtain ⟨v', w', hrun, h1, h2, h3⟩ := run_append_ints base n m c o.type v xs ys A S hown hT hbd hbase
  unfold Oper.wp execOp
  simp only [ho, resolve, invoke, builtin, Sem.run_bind, Sem.run_pure, Result.andThen_ok, List.map_toArray, List.map_cons, List.map_nil, hs, hx, hrun]
  exact k v' w' h1 h2 h3
theorem wpList_append_ints {ops : Array Oper} {rest : List Oper} {o : Oper} {a : Act} {w : World} {Q : Exit → Act → World → Prop} (hgd : o.guard = none) (s x : Operand)
    (ho : o.op = .call { callee := .builtin .append, args := #[s, x], argTypes := #[26, 26] }) (base n m c : Nat) (v : Value) (xs ys : List Int) (A : Option Addr) (S : Nat → Prop)
    (hs : a.eval s = v) (hx : a.eval x = .slice A m c) (hown : w.ownsRow base 3 1 v n (icells xs)) (hT : Ints S w A m c ys) (hbd : n + m ≤ 17592186044416) (hbase : base ≤ w.heap.size)
    (k : ∀ v' w', w'.ownsRow base 3 1 v' (n + m) (icells (xs ++ ys)) → w.grownBy w' v.ownBlock → (v'.ownBlock = v.ownBlock ∨ v'.ownBlock = some w.heap.size) → wpList Tryz.prog ops Q rest (a.put o.dst v') w') :
    wpList Tryz.prog ops Q (o :: rest) a w :=
  wpList_plain hgd fun _ hK => wp_append_ints s x ho base n m c v xs ys A S hs hx hown hT hbd hbase fun v' w' h1 h2 h3 => hK _ _ (k v' w' h1 h2 h3)
theorem nil_ints (w : World) (base : Nat) : w.ownsRow base 3 1 (.slice none 0 0) 0 (icells []) := ⟨rfl, .inl ⟨rfl, rfl⟩⟩
/-- one int in a block that was just laid -/
theorem one_int (w : World) (x : Int) : Ints Any (w.alloc (.cells #[.int .i64 x] 3)) (some ⟨w.heap.size, 0, none⟩) 1 1 [x] := by
  refine ⟨rfl, Nat.le_refl _, by omega, fun e => (by cases e), fun ad e => ⟨trivial, fun _ => by injection e with e; subst e; simp⟩, fun ad e j hj => ?_⟩
  injection e with e
  subst e
  obtain rfl : j = 0 := by omega
  exact cell_of_row _ _ 0 _ _ _ (heap_alloc_last w (.cells #[.int .i64 x] 3))
/-- ints told -/
def ToldI (xs : List Int) (w : World) (e : Ending) (w' : World) : Prop := ∃ A n c, e = .returned (.slice A n c) ∧ Ints (New w.heap.size w') w' A n c xs ∧ Below w.heap.size w w'
end Go.Proofs.YtakglldffpnlaaaGreatDoor.Rt
