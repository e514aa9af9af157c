/- append of bytes that came in, nil let in, onto a row of the call's own. -/
import Derived.Test.YtdkhiooiakdecaaDoorRKecOwn
import Derived.Laws.AppendOwnNone
namespace Go.Proofs.YtdkhiooiakdecaaDoorR.Kec
set_option linter.all false
open Go.RowKit

theorem news_of_rd {w : World} {B : Nat} {ad : Addr} {ys : List Nat} (h : Rd w B (some ad) ys) : ∀ j u, (bcells ys)[j]? = some u → w.cell? (ad.add j) = some u := by
  intro j u hu
  have hj : j < ys.length := by
    rcases Nat.lt_or_ge j ys.length with h | h
    · exact h
    · rw [List.getElem?_eq_none (by rw [bcells_len]; omega)] at hu; cases hu
  obtain ⟨ad', e, _, hc⟩ := h.2 (by omega)
  injection e with e
  subst e
  rw [bcells_at ys j hj] at hu
  rw [hc j hj, ← hu]

theorem run_append_rd {w : World} (base g n cap m c B : Nat) (ty : TypeId) (xs ys : List Nat) (A : Option Addr) (hown : w.ownsRow base 5 1 (.slice (some ⟨g, 0, none⟩) n cap) n (bcells xs))
    (hR : Rd w B A ys) (hm : ys.length = m) (hc : A = none → c = 0) (hbd : n + m ≤ 1000000) (hbase : base ≤ w.heap.size) :
    ∃ g' cap' w', (Builtin.append_ #[22, 22] ty #[.slice (some ⟨g, 0, none⟩) n cap, .slice A m c]).run Tryd.prog w = .ok (.slice (some ⟨g', 0, none⟩) (n + m) cap') w' ∧
      w'.ownsRow base 5 1 (.slice (some ⟨g', 0, none⟩) (n + m) cap') (n + m) (bcells (xs ++ ys)) ∧ w.grownBy w' (some g) ∧ (g' = g ∨ g' = w.heap.size) := by
  obtain ⟨i, hi, hz, hsz, hby⟩ := byteInfo
  cases A with
  | none =>
    have h0 : m = 0 := by
      rcases Nat.eq_zero_or_pos m with h | h
      · exact h
      · obtain ⟨ad, e, _⟩ := hR.2 (by omega)
        cases e
    have hy : ys = [] := List.eq_nil_of_length_eq_zero (by omega)
    have hc0 := hc rfl
    subst h0 hy hc0
    refine ⟨g, cap, w, run_append_owned_none (P := Tryd.prog) (w := w) base 22 ty 5 i 1 Tryd.underlying22 hi _ n (bcells xs) hown, by simpa using hown, World.grownBy.refl _ _, .inl rfl⟩
  | some ad =>
    have hml : n + m ≤ maxLen := by unfold maxLen; omega
    obtain ⟨v', w', hrun, h1, h2, h3, h4⟩ := run_append_own_at (P := Tryd.prog) w base 22 ty 5 i (.int .u8 0) 1 1 Tryd.underlying22 hi hz hsz hby rfl (by omega) _ n (bcells xs) hown ad m c (bcells ys) (by rw [bcells_len]; omega)
      (news_of_rd hR) (bcells_one ys) hml (by omega) hbase
    rw [← bcells_append] at h1
    have hne : v' ≠ .slice none 0 0 := fun e => by have := (h3.1 e).1; cases this
    rcases h1.2 with ⟨e, _⟩ | ⟨g', cap', cur, e, _⟩
    · exact absurd e hne
    · subst e
      refine ⟨g', cap', w', hrun, h1, h2, ?_⟩
      rcases h4 with h4 | h4
      · exact .inl (Option.some.inj h4)
      · exact .inr (Option.some.inj h4)

theorem wp_append_rd {o : Oper} {a : Act} {w : World} {K : Act → World → Prop} {Q : Exit → Act → World → Prop} (s x : Operand)
    (ho : o.op = .call { callee := .builtin .append, args := #[s, x], argTypes := #[22, 22] }) (base g n cap m c B : Nat) (xs ys : List Nat) (A : Option Addr)
    (hs : a.eval s = .slice (some ⟨g, 0, none⟩) n cap) (hx : a.eval x = .slice A m c)
    (hown : w.ownsRow base 5 1 (.slice (some ⟨g, 0, none⟩) n cap) n (bcells xs)) (hR : Rd w B A ys) (hm : ys.length = m) (hc : A = none → c = 0) (hbd : n + m ≤ 1000000) (hbase : base ≤ w.heap.size)
    (k : ∀ g' cap' w', w'.ownsRow base 5 1 (.slice (some ⟨g', 0, none⟩) (n + m) cap') (n + m) (bcells (xs ++ ys)) → w.grownBy w' (some g) → (g' = g ∨ g' = w.heap.size) → K (a.put o.dst (.slice (some ⟨g', 0, none⟩) (n + m) cap')) w') :
    Oper.wp Tryd.prog o a w K Q := by
  obtain ⟨g', cap', w', hrun, h1, h2, h3⟩ := run_append_rd base g n cap m c B o.type xs ys A hown hR hm hc hbd hbase
  unfold Oper.wp execOp
  simp only [ho, resolve, invoke, builtin, Sem.run_bind, Sem.run_pure, Result.andThen_ok, List.map_toArray, List.map_cons, List.map_nil, hs, hx, hrun]
  exact k g' cap' w' h1 h2 h3
theorem wpList_append_rd {ops : Array Oper} {rest : List Oper} {o : Oper} {a : Act} {w : World} {Q : Exit → Act → World → Prop} (hgd : o.guard = none) (s x : Operand)
    (ho : o.op = .call { callee := .builtin .append, args := #[s, x], argTypes := #[22, 22] }) (base g n cap m c B : Nat) (xs ys : List Nat) (A : Option Addr)
    (hs : a.eval s = .slice (some ⟨g, 0, none⟩) n cap) (hx : a.eval x = .slice A m c)
    (hown : w.ownsRow base 5 1 (.slice (some ⟨g, 0, none⟩) n cap) n (bcells xs)) (hR : Rd w B A ys) (hm : ys.length = m) (hc : A = none → c = 0) (hbd : n + m ≤ 1000000) (hbase : base ≤ w.heap.size)
    (k : ∀ g' cap' w', w'.ownsRow base 5 1 (.slice (some ⟨g', 0, none⟩) (n + m) cap') (n + m) (bcells (xs ++ ys)) → w.grownBy w' (some g) → (g' = g ∨ g' = w.heap.size) → wpList Tryd.prog ops Q rest (a.put o.dst (.slice (some ⟨g', 0, none⟩) (n + m) cap')) w') :
    wpList Tryd.prog ops Q (o :: rest) a w :=
  wpList_plain hgd fun _ hK => wp_append_rd s x ho base g n cap m c B xs ys A hs hx hown hR hm hc hbd hbase fun g' cap' w' h1 h2 h3 => hK _ _ (k g' cap' w' h1 h2 h3)
/-- the same at a step of a region that draws its order -/
theorem step_append_rd {ops : Array Oper} {o : Oper} {a : Act} {w : World} {K : Act → World → Prop} {Q : Exit → Act → World → Prop} {E : Prop} {ts : Array Value} (hw : Region.wanted o (yielded ops ts) = true) (s x : Operand)
    (ho : o.op = .call { callee := .builtin .append, args := #[s, x], argTypes := #[22, 22] }) (base g n cap m c B : Nat) (xs ys : List Nat) (A : Option Addr)
    (hs : a.eval s = .slice (some ⟨g, 0, none⟩) n cap) (hx : a.eval x = .slice A m c)
    (hown : w.ownsRow base 5 1 (.slice (some ⟨g, 0, none⟩) n cap) n (bcells xs)) (hR : Rd w B A ys) (hm : ys.length = m) (hc : A = none → c = 0) (hbd : n + m ≤ 1000000) (hbase : base ≤ w.heap.size)
    (k : ∀ g' cap' w', w'.ownsRow base 5 1 (.slice (some ⟨g', 0, none⟩) (n + m) cap') (n + m) (bcells (xs ++ ys)) → w.grownBy w' (some g) → (g' = g ∨ g' = w.heap.size) → K (a.put o.dst (.slice (some ⟨g', 0, none⟩) (n + m) cap')) w') :
    if Region.wanted o (yielded ops ts) = true then Oper.wp Tryd.prog o a w K Q else E := by
  rw [if_pos hw]
  exact wp_append_rd s x ho base g n cap m c B xs ys A hs hx hown hR hm hc hbd hbase k

/-- a row of one's own, read as a slice that is handed in -/
theorem rd_of_own {w : World} {base g n cap B : Nat} {xs : List Nat} (hown : w.ownsRow base 5 1 (.slice (some ⟨g, 0, none⟩) n cap) n (bcells xs)) (hx : ∀ j, gt xs j < 256) (hB : w.heap.size ≤ B) : Rd w B (some ⟨g, 0, none⟩) xs := by
  have hl : xs.length = n := by have := hown.1; rw [bcells_len] at this; omega
  have hlt : g < w.heap.size := (hown.lt g rfl).2
  refine ⟨hx, fun _ => ⟨_, rfl, by show g < B; omega, fun j hj => ?_⟩⟩
  have ha : (⟨g, 0, none⟩ : Addr).add j = ⟨g, j, none⟩ := by unfold Addr.add; split <;> simp_all
  rw [ha, hown.cellAt j (by omega), bcells_at xs j hj]
theorem gt_append_lt {a b : List Nat} (ha : ∀ j, gt a j < 256) (hb : ∀ j, gt b j < 256) : ∀ j, gt (a ++ b) j < 256 := by
  intro j
  have h1 := ha j; have h2 := hb (j - a.length)
  unfold gt at *
  rw [List.getD_eq_getElem?_getD, List.getElem?_append]
  split
  · rwa [List.getD_eq_getElem?_getD] at h1
  · rwa [List.getD_eq_getElem?_getD] at h2
theorem gt_lt_of_mem {a : List Nat} (h : ∀ x ∈ a, x < 256) : ∀ j, gt a j < 256 := by
  intro j
  unfold gt
  rw [List.getD_eq_getElem?_getD]
  by_cases hj : j < a.length
  · rw [List.getElem?_eq_getElem hj]; exact h _ (List.getElem_mem _)
  · rw [List.getElem?_eq_none (by omega)]; decide
end Go.Proofs.YtdkhiooiakdecaaDoorR.Kec
