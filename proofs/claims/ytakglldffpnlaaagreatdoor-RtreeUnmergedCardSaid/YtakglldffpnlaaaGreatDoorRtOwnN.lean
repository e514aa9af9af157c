/- Rows of nodes of one's own: made, copied into, one node replaced. -/
import Derived.Test.YtakglldffpnlaaaGreatDoorRtOwn
import Derived.Deep.MidRow
import Derived.Laws.CopyRow
import Derived.Laws.MakeOwn
namespace Go.Proofs.YtakglldffpnlaaaGreatDoor.Rt
set_option linter.all false
open Go.RowKit
open Wr (Txt Any New)

def flat (qs : List NdQ) : List Value := (qs.map fun q => q.cs.toList).flatten
theorem cs_len (q : NdQ) : q.cs.toList.length = 6 := rfl
theorem cs_size (q : NdQ) : q.cs.size = 6 := rfl
theorem flat_len : ∀ qs : List NdQ, (flat qs).length = qs.length * 6
  | [] => rfl
  | q :: qs => by
    have : flat (q :: qs) = q.cs.toList ++ flat qs := by simp [flat]
    rw [this, List.length_append, flat_len qs, cs_len, List.length_cons]; omega
theorem flat_cons (q : NdQ) (qs : List NdQ) : flat (q :: qs) = q.cs.toList ++ flat qs := by simp [flat]
theorem flat_append (a b : List NdQ) : flat (a ++ b) = flat a ++ flat b := by simp [flat]
theorem flat_at : ∀ (qs : List NdQ) (j k : Nat) (q : NdQ), qs[j]? = some q → k < 6 → (flat qs)[j * 6 + k]? = q.cs[k]?
  | [], j, k, q, h, _ => by simp at h
  | q' :: qs, 0, k, q, h, hk => by
    simp at h
    subst h
    rw [flat_cons, List.getElem?_append_left (by rw [cs_len]; omega)]
    simp
  | q' :: qs, j + 1, k, q, h, hk => by
    rw [flat_cons, List.getElem?_append_right (by rw [cs_len]; omega), cs_len, show (j + 1) * 6 + k - 6 = j * 6 + k by omega]
    exact flat_at qs j k q (by simpa using h) hk
theorem flat_one (qs : List NdQ) : ∀ u ∈ flat qs, u.oneCell' = true := by
  intro u hu
  unfold flat at hu
  rw [List.mem_flatten] at hu
  obtain ⟨l, hl, hu⟩ := hu
  obtain ⟨q, _, rfl⟩ := List.mem_map.1 hl
  simp [NdQ.cs] at hu
  rcases hu with rfl | rfl | rfl | rfl | rfl | rfl <;> rfl
theorem flat_set : ∀ (qs : List NdQ) (j : Nat) (q : NdQ), j < qs.length → flat (qs.set j q) = (flat qs).take (j * 6) ++ q.cs.toList ++ (flat qs).drop (j * 6 + 6)
  | [], j, q, h => by simp at h
  | q' :: qs, 0, q, h => by
    rw [List.set_cons_zero, flat_cons, flat_cons]
    simp
  | q' :: qs, j + 1, q, h => by
    rw [List.set_cons_succ, flat_cons, flat_cons, flat_set qs j q (by simpa using h)]
    have hl : q'.cs.toList.length = 6 := cs_len q'
    generalize q'.cs.toList = l at *
    generalize q.cs.toList = m at *
    have t1 : (l ++ flat qs).take ((j + 1) * 6) = l ++ (flat qs).take (j * 6) := by
      rw [List.take_append, List.take_of_length_le (show l.length ≤ (j + 1) * 6 by omega), hl, show (j + 1) * 6 - 6 = j * 6 by omega]
    have t2 : (l ++ flat qs).drop ((j + 1) * 6 + 6) = (flat qs).drop (j * 6 + 6) := by
      rw [List.drop_append, List.drop_of_length_le (show l.length ≤ (j + 1) * 6 + 6 by omega), hl, show (j + 1) * 6 + 6 - 6 = j * 6 + 6 by omega, List.nil_append]
    rw [t1, t2]
    simp
theorem nodeInfo : ∃ i : TypeInfo, Tryz.prog.info? 28 = some i ∧ i.zero = some (.agg zeroQ.cs) ∧ i.size = 6 ∧ i.bytes ≤ 200 ∧ 0 < i.bytes := by
  have h : (Tryz.prog.info? 28).map (fun i => (i.zero, i.size, i.bytes)) = some (some (.agg zeroQ.cs), 6, 128) := by kernel_rfl
  obtain ⟨i, hi, e⟩ := Option.map_eq_some_iff.1 h
  simp only [Prod.mk.injEq] at e
  exact ⟨i, hi, e.1, e.2.1, by omega, by omega⟩
/-- what a node has lies in blocks of which S is true -/
structure NdFar (S : Nat → Prop) (q : NdQ) : Prop where
  f1 : 0 < q.n1 → ∀ ad, q.A1 = some ad → S ad.block
  f2 : 0 < q.n2 → ∀ ad, q.A2 = some ad → S ad.block
  f3 : 0 < q.n3 → ∀ ad, q.A3 = some ad → S ad.block
  f4 : 0 < q.n4 → ∀ ad, q.A4 = some ad → S ad.block
  f5 : 0 < q.n5 → ∀ ad, q.A5 = some ad → S ad.block
theorem NdFar.mono {S S' : Nat → Prop} {q : NdQ} (h : NdFar S q) (hS : ∀ b, S b → S' b) : NdFar S' q :=
  ⟨fun a ad e => hS _ (h.f1 a ad e), fun a ad e => hS _ (h.f2 a ad e), fun a ad e => hS _ (h.f3 a ad e), fun a ad e => hS _ (h.f4 a ad e), fun a ad e => hS _ (h.f5 a ad e)⟩
theorem NdFar.zero (S : Nat → Prop) : NdFar S zeroQ := ⟨fun h => absurd h (by decide), fun h => absurd h (by decide), fun h => absurd h (by decide), fun h => absurd h (by decide), fun h => absurd h (by decide)⟩
theorem txt_in {T : Nat → Prop} {w : World} {A : Option Addr} {n c : Nat} {bs : List Nat} (h : Txt T w A n c bs) : 0 < n → ∀ ad, A = some ad → ad.block < w.heap.size := fun hn ad e => by
  obtain ⟨ad', e', hlt, _⟩ := h.1.2 (by rw [h.len]; exact hn)
  rw [e] at e'; injection e' with e'; subst e'; exact hlt
theorem NdIs.far {T : Nat → Prop} {w : World} {q : NdQ} {n : Nd} (h : NdIs T w q n) : NdFar (fun b => b < w.heap.size) q :=
  ⟨txt_in h.ek, txt_in h.vk, txt_in h.nm, txt_in h.ab, fun hn ad e => (h.un.2.2.2.2.1 ad e).2 hn⟩
theorem txt_keep {S : Nat → Prop} {w w' : World} {A : Option Addr} {n c : Nat} {bs : List Nat} (h : Txt Any w A n c bs) (hf : 0 < n → ∀ ad, A = some ad → S ad.block) (hs : w.heap.size ≤ w'.heap.size) (hc : ∀ b, S b → b < w.heap.size → w'.heap[b]? = w.heap[b]?) : Txt Any w' A n c bs := by
  by_cases hn : 0 < n
  · have h' : Txt S w A n c bs := ⟨h.1, h.2.1, h.2.2.1, h.2.2.2.1, h.2.2.2.2.1, hf hn⟩
    exact (h'.kept hs hc).any
  · obtain rfl : n = 0 := by omega
    obtain rfl : bs = [] := List.eq_nil_of_length_eq_zero h.len
    exact ⟨⟨fun j => by simp [Wr.gt], fun h => absurd h (by simp)⟩, h.2⟩
theorem ints_keep {S : Nat → Prop} {w w' : World} {A : Option Addr} {n c : Nat} {xs : List Int} (h : Ints Any w A n c xs) (hf : 0 < n → ∀ ad, A = some ad → S ad.block) (hs : w.heap.size ≤ w'.heap.size) (hc : ∀ b, S b → b < w.heap.size → w'.heap[b]? = w.heap[b]?) : Ints Any w' A n c xs := by
  by_cases hn : 0 < n
  · obtain ⟨h1, h2, h3, h4, h5, h6⟩ := h
    have h' : Ints S w A n c xs := ⟨h1, h2, h3, h4, fun ad e => ⟨hf hn ad e, (h5 ad e).2⟩, h6⟩
    exact (h'.kept hs hc).any
  · obtain rfl : n = 0 := by omega
    obtain ⟨h1, h2, h3, h4, h5, h6⟩ := h
    exact ⟨h1, h2, h3, h4, fun ad e => ⟨trivial, fun h => absurd h (by omega)⟩, fun ad e j hj => absurd hj (by omega)⟩
theorem NdIs.keep {S : Nat → Prop} {w w' : World} {q : NdQ} {n : Nd} (h : NdIs Any w q n) (hf : NdFar S q) (hs : w.heap.size ≤ w'.heap.size) (hc : ∀ b, S b → b < w.heap.size → w'.heap[b]? = w.heap[b]?) : NdIs Any w' q n :=
  ⟨h.k, txt_keep h.ek hf.f1 hs hc, txt_keep h.vk hf.f2 hs hc, txt_keep h.nm hf.f3 hs hc, txt_keep h.ab hf.f4 hs hc, ints_keep h.un hf.f5 hs hc⟩
/-- nodes of one's own: what they have lies in blocks of which S is true, theirs is none of them -/
def OwnN (S : Nat → Prop) (w : World) (base g n c : Nat) (ns : List Nd) : Prop :=
  (∀ b, S b → b ≠ g) ∧ ∃ qs : List NdQ, qs.length = n ∧ ns.length = n ∧ w.ownsRow base 28 6 (.slice (some ⟨g, 0, none⟩) n c) n (flat qs) ∧ ∀ j q, qs[j]? = some q → NdIs Any w q (nd ns j) ∧ NdFar S q
theorem OwnN.lt {S : Nat → Prop} {w : World} {base g n c : Nat} {ns : List Nd} (h : OwnN S w base g n c ns) : base ≤ g ∧ g < w.heap.size := by
  obtain ⟨_, qs, _, _, ho, _⟩ := h
  exact ho.lt g rfl
theorem OwnN.len {S : Nat → Prop} {w : World} {base g n c : Nat} {ns : List Nd} (h : OwnN S w base g n c ns) : ns.length = n := by
  obtain ⟨_, qs, _, h, _⟩ := h; exact h
theorem OwnN.below {S : Nat → Prop} {w w' : World} {base g n c : Nat} {ns : List Nd} (h : OwnN S w base g n c ns) (hb : Below w.heap.size w w') : OwnN S w' base g n c ns := by
  obtain ⟨h0, qs, h1, h2, h3, h4⟩ := h
  exact ⟨h0, qs, h1, h2, own_belowG h3 hb, fun j q hq => ⟨(h4 j q hq).1.below hb, (h4 j q hq).2⟩⟩
theorem own_of_blocksG {w w' : World} {base e sz n : Nat} {v : Value} {xs : List Value} (h : w.ownsRow base e sz v n xs) (hb : ∀ b, v.ownBlock = some b → w'.heap[b]? = w.heap[b]?) : w'.ownsRow base e sz v n xs := by
  refine ⟨h.1, ?_⟩
  rcases h.2 with h1 | ⟨g, c, cur, he, hg, hc, rest⟩
  · exact .inl h1
  · subst he
    exact .inr ⟨g, c, cur, rfl, hg, (hb g rfl).trans hc, rest⟩
theorem OwnN.kept {S : Nat → Prop} {w w' : World} {base g n c : Nat} {ns : List Nd} (h : OwnN S w base g n c ns) (hs : w.heap.size ≤ w'.heap.size) (hg : w'.heap[g]? = w.heap[g]?) (hc : ∀ b, S b → b < w.heap.size → w'.heap[b]? = w.heap[b]?) : OwnN S w' base g n c ns := by
  obtain ⟨h0, qs, h1, h2, h3, h4⟩ := h
  exact ⟨h0, qs, h1, h2, own_of_blocksG h3 (fun b hb => by injection hb with hb; subst hb; exact hg), fun j q hq => ⟨(h4 j q hq).1.keep (h4 j q hq).2 hs hc, (h4 j q hq).2⟩⟩
theorem OwnN.mono {S S' : Nat → Prop} {w : World} {base g n c : Nat} {ns : List Nd} (h : OwnN S w base g n c ns) (hS : ∀ b, S b → S' b) (hg : ∀ b, S' b → b ≠ g) : OwnN S' w base g n c ns := by
  obtain ⟨h0, qs, h1, h2, h3, h4⟩ := h
  exact ⟨hg, qs, h1, h2, h3, fun j q hq => ⟨(h4 j q hq).1, (h4 j q hq).2.mono hS⟩⟩
theorem OwnN.at {S : Nat → Prop} {w : World} {base g n c : Nat} {ns : List Nd} (h : OwnN S w base g n c ns) (j : Nat) (hj : j < n) : ∃ q, NdAt w ⟨g, j * 6, none⟩ q ∧ NdIs Any w q (nd ns j) ∧ NdFar S q := by
  obtain ⟨_, qs, h1, h2, h3, h4⟩ := h
  have hq : qs[j]? = some qs[j] := List.getElem?_eq_getElem (by omega)
  refine ⟨qs[j], fun i hi => ?_, h4 j _ hq⟩
  rw [Addr.add_mid, h3.cellAt (j * 6 + i) (by have := Nat.mul_le_mul_right 6 (show j + 1 ≤ n by omega); omega), flat_at qs j i _ hq hi]
theorem addr_zero (g j : Nat) : (⟨g, 0, none⟩ : Addr).add j = ⟨g, j, none⟩ := by unfold Addr.add; split <;> simp_all
theorem nd_set' (ns : List Nd) (i j : Nat) (n : Nd) (h : i < ns.length) : nd (ns.set i n) j = if j = i then n else nd ns j := by
  unfold nd
  rw [List.getD_eq_getElem?_getD, List.getD_eq_getElem?_getD, List.getElem?_set]
  by_cases e : i = j
  · subst e; simp [h]
  · rw [if_neg e, if_neg (fun x => e x.symm)]
theorem OwnN.nodes {S : Nat → Prop} {w : World} {base g n c : Nat} {ns : List Nd} (h : OwnN S w base g n c ns) : Nodes (fun b => b = g) Any w (some ⟨g, 0, none⟩) n c ns := by
  have h' := h
  obtain ⟨_, qs, h1, h2, h3, h4⟩ := h
  rcases h3.2 with ⟨e, _⟩ | ⟨g', c', cur, e, hg, hc, a1, a2, _⟩
  · cases e
  · injection e with e1 e2 e3
    subst e3
    refine ⟨h2, a1, a2, fun e => (by cases e), fun ad e => ?_, fun ad e j hj => ?_⟩
    · injection e with e
      subst e
      exact ⟨rfl, fun _ => h'.lt.2⟩
    · injection e with e
      subst e
      rw [addr_zero]
      obtain ⟨q, h1, h2, _⟩ := h'.at j hj
      exact ⟨q, h1, h2⟩
/-- a node of the row is another one -/
theorem OwnN.put {S : Nat → Prop} {w w' : World} {base g n c : Nat} {ns : List Nd} (h : OwnN S w base g n c ns) (j : Nat) (hj : j < n) (q : NdQ) (m : Nd) (hq : NdIs Any w q m) (hqf : NdFar S q) (hs : w.heap.size ≤ w'.heap.size) (cur : Array Value)
    (hcur : w.heap[g]? = some (.cells cur 28 (0, 0))) (hg : w'.heap[g]? = some (.cells (cur.toList.take (j * 6) ++ q.cs.toList ++ cur.toList.drop (j * 6 + 6)).toArray 28 (0, 0))) (hc : ∀ b, S b → b < w.heap.size → w'.heap[b]? = w.heap[b]?) : OwnN S w' base g n c (ns.set j m) := by
  obtain ⟨h0, qs, h1, h2, h3, h4⟩ := h
  refine ⟨h0, qs.set j q, by rw [List.length_set]; exact h1, by rw [List.length_set]; exact h2, ?_, fun i q' hq' => ?_⟩
  · rcases h3.2 with ⟨e, _⟩ | ⟨g', c', cur', e, hb, hcc, a1, a2, a3, a4⟩
    · cases e
    · injection e with e1 e2 e3
      have e5 : g' = g := by injection e1 with e1; injection e1 with e1; exact e1.symm
      subst e5 e3
      rw [hcur] at hcc
      injection hcc with hcc
      injection hcc with hcc
      subst hcc
      have hjn : j * 6 + 6 ≤ n * 6 := by omega
      have hnc : n * 6 ≤ c * 6 := Nat.mul_le_mul_right _ a1
      have hcl : cur.toList.length = c * 6 := by rw [Array.length_toList]; exact a3
      refine ⟨by rw [flat_len, List.length_set, h1], .inr ⟨g', c, _, rfl, hb, hg, a1, a2, ?_, ?_⟩⟩
      · rw [List.size_toArray, List.length_append, List.length_append, List.length_take, List.length_drop, cs_len, hcl]; omega
      · rw [flat_set qs j q (by omega), ← a4]
        show List.take (n * 6) (List.take (j * 6) cur.toList ++ q.cs.toList ++ List.drop (j * 6 + 6) cur.toList) = _
        rw [List.take_take, Nat.min_eq_left (by omega), List.drop_take, List.take_append, List.take_of_length_le (by rw [List.length_append, List.length_take, cs_len, hcl]; omega)]
        congr 1
        rw [List.length_append, List.length_take, cs_len, hcl]
        congr 1
        omega
  · rw [nd_set' ns j i m (by omega)]
    rw [List.getElem?_set] at hq'
    by_cases e : j = i
    · subst e
      rw [if_pos rfl, if_pos (by omega)] at hq'
      injection hq' with hq'
      subst hq'
      rw [if_pos rfl]
      exact ⟨hq.keep hqf hs hc, hqf⟩
    · rw [if_neg e] at hq'
      rw [if_neg (fun x => e x.symm)]
      exact ⟨(h4 i q' hq').1.keep (h4 i q' hq').2 hs hc, (h4 i q' hq').2⟩
theorem Nodes.list {R S : Nat → Prop} {w : World} {ad : Addr} {n c : Nat} {ns : List Nd} (h : Nodes R S w (.some ad) n c ns) : ∃ qs : List NdQ, qs.length = n ∧ ∀ j q, qs[j]? = .some q → j < n ∧ NdAt w (ad.add (j * 6)) q ∧ NdIs S w q (nd ns j) := by
  have hx : ∀ j, ∃ q, j < n → NdAt w (ad.add (j * 6)) q ∧ NdIs S w q (nd ns j) := fun j => by
    by_cases hj : j < n
    · obtain ⟨q, hq⟩ := h.at j hj; exact ⟨q, fun _ => hq⟩
    · exact ⟨zeroQ, fun h => absurd h hj⟩
  obtain ⟨f, hf⟩ := Classical.axiomOfChoice hx
  refine ⟨(List.range n).map f, by simp, fun j q hq => ?_⟩
  have hj : j < n := by
    rcases Nat.lt_or_ge j n with h | h
    · exact h
    · rw [List.getElem?_eq_none (by simp; omega)] at hq; cases hq
  rw [List.getElem?_map, List.getElem?_range hj] at hq
  simp at hq
  subst hq
  exact ⟨hj, hf j hj⟩
theorem flat_news {w : World} {ad : Addr} {qs : List NdQ} (h : ∀ j q, qs[j]? = some q → NdAt w (ad.add (j * 6)) q) : ∀ j v, (flat qs)[j]? = some v → w.cell? (ad.add j) = some v := by
  intro j v hv
  have hj : j < (flat qs).length := by
    rcases Nat.lt_or_ge j (flat qs).length with h | h
    · exact h
    · rw [List.getElem?_eq_none h] at hv; cases hv
  rw [flat_len] at hj
  have hq : qs[j / 6]? = some (qs[j / 6]'(by omega)) := List.getElem?_eq_getElem (by omega)
  have h1 := h (j / 6) _ hq (j % 6) (Nat.mod_lt _ (by decide))
  have h2 := flat_at qs (j / 6) (j % 6) _ hq (Nat.mod_lt _ (by decide))
  rw [show j / 6 * 6 + j % 6 = j by omega] at h2
  rw [Wr.add_add, show j / 6 * 6 + j % 6 = j by omega] at h1
  rw [h1, ← h2, hv]

/-! ### copy of nodes -/
theorem run_copy_rows {P : Program} (w : World) (dT sT ty elem : TypeId) (g o dLen dCap : Nat) (a : Addr) (sLen sCap : Nat) (cur : Array Value) (t : TypeId) (cs : List Value) (size : Nat)
    (hu : P.underlying dT = some (.slice elem)) (hs : (P.info? elem).map (·.size) = some size)
    (hg : w.heap[g]? = some (.cells cur t (0, 0))) (hn : cs.length = Nat.min sLen dLen * size)
    (hsrc : ∀ j v, cs[j]? = some v → w.cell? (a.add j) = some v) (hfit : o + cs.length ≤ cur.size) (h1 : ∀ v ∈ cs, v.oneCell' = true) :
    (Builtin.copy_ #[dT, sT] ty #[.slice (some ⟨g, o, none⟩) dLen dCap, .slice (some a) sLen sCap]).run P w =
      .ok (goInt (Nat.min sLen dLen)) (w.setRow g (cur.toList.take o ++ cs ++ cur.toList.drop (o + cs.length)).toArray) := by
  have hl := run_loadCells_list (P := P) w a cs hsrc
  have hst := run_storeCells_at P g o t cs 0 cur w hg (by simpa using hfit) h1
  cases hq : P.info? elem with
  | none => simp [hq] at hs
  | some i =>
    have hi : i.size = size := by simpa [hq] using hs
    simp [Builtin.copy_, run_underlying hu, Builtin.lenOf, Builtin.firstCells, sizeOf, typeInfo, hq, hi, ← hn, hl, hst]
theorem made_flat (n : Nat) : (madeCells (Value.agg zeroQ.cs).cells (n * 6)).toList = flat (List.replicate n zeroQ) := by
  apply List.ext_getElem?
  intro i
  by_cases hi : i < n * 6
  · have hq : (List.replicate n zeroQ)[i / 6]? = some zeroQ := by rw [List.getElem?_replicate, if_pos (by omega)]
    have h2 := flat_at _ (i / 6) (i % 6) _ hq (Nat.mod_lt _ (by decide))
    rw [show i / 6 * 6 + i % 6 = i by omega] at h2
    rw [h2, Array.getElem?_toList]
    simp only [madeCells, Array.getElem?_map, Array.getElem?_range, hi, if_true]
    have hlt : i % 6 < 6 := Nat.mod_lt _ (by decide)
    have : (Value.agg zeroQ.cs).cells = zeroQ.cs := rfl
    rw [this]
    show some (zeroQ.cs[i % zeroQ.cs.size]!) = _
    rw [cs_size, Array.getElem?_eq_getElem (by rw [cs_size]; exact hlt), getElem!_pos _ _ (by rw [cs_size]; exact hlt)]
  · rw [List.getElem?_eq_none (by rw [Array.length_toList, size_madeCells]; omega), List.getElem?_eq_none (by rw [flat_len, List.length_replicate]; omega)]
end Go.Proofs.YtakglldffpnlaaaGreatDoor.Rt
