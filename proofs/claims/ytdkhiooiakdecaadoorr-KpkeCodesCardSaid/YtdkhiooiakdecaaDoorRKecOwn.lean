/- Rows of bytes of the call's own: append, as strings; a guarded append in a region that draws its order. -/
import Derived.Test.YtdkhiooiakdecaaDoorRKecWalkJ
import Derived.Deep.AppendLies
import Derived.Deep.RegionLaw
import Derived.Deep.DrawnRows
import Derived.Laws.OwnMore
namespace Go.Proofs.YtdkhiooiakdecaaDoorR.Kec
set_option linter.all false
open Go.RowKit

def bcells (bs : List Nat) : List Value := bs.map fun x => Value.int .u8 ((x : Nat) : Int)
theorem bcells_len (bs : List Nat) : (bcells bs).length = bs.length := by simp [bcells]
theorem bcells_one (bs : List Nat) : ∀ u ∈ bcells bs, u.oneCell' = true := by
  intro u hu
  obtain ⟨x, _, rfl⟩ := List.mem_map.1 hu
  rfl
theorem bcells_at (bs : List Nat) (i : Nat) (h : i < bs.length) : (bcells bs)[i]? = some (.int .u8 ((gt bs i : Nat) : Int)) := by
  simp [bcells, gt, List.getD_eq_getElem?_getD, h]
theorem bcells_append (a b : List Nat) : bcells (a ++ b) = bcells a ++ bcells b := by simp [bcells]
theorem own_of_row {w : World} {h n base : Nat} {bs : List Nat} (hrow : w.rowIs h 5 n (byteRow bs)) (hn : bs.length = n) (hm : n ≤ maxLen) (hb : base ≤ h) :
    w.ownsRow base 5 1 (.slice (some ⟨h, 0, none⟩) n n) n (bcells bs) := by
  obtain ⟨c, hc, hs, hi⟩ := hrow
  refine ⟨by rw [bcells_len]; omega, .inr ⟨h, n, c, rfl, hb, hc, Nat.le_refl _, hm, by omega, ?_⟩⟩
  apply List.ext_getElem?
  intro i
  by_cases hin : i < n
  · rw [bcells_at bs i (by omega), List.getElem?_take_of_lt (by omega), Array.getElem?_toList, hi i hin]; rfl
  · rw [List.getElem?_eq_none (by simp; omega), List.getElem?_eq_none (by rw [bcells_len]; omega)]
theorem news_of_row {w : World} {h n : Nat} {bs : List Nat} (hrow : w.rowIs h 5 n (byteRow bs)) (hn : bs.length = n) :
    ∀ j u, (bcells bs)[j]? = some u → w.cell? ((⟨h, 0, none⟩ : Addr).add j) = some u := by
  intro j u hu
  have hj : j < n := by
    rcases Nat.lt_or_ge j n with h | h
    · exact h
    · rw [List.getElem?_eq_none (by rw [bcells_len]; omega)] at hu; cases hu
  rw [bcells_at bs j (by omega)] at hu
  have ha : (⟨h, 0, none⟩ : Addr).add j = ⟨h, j, none⟩ := by unfold Addr.add; split <;> simp_all
  rw [ha, hrow.cell hj, ← hu]; rfl
theorem conv_own {w : World} {g n cap base : Nat} {bs : List Nat} (hown : w.ownsRow base 5 1 (.slice (some ⟨g, 0, none⟩) n cap) n (bcells bs)) :
    (convert 22 9 (.slice (some ⟨g, 0, none⟩) n cap)).run Tryd.prog w = .ok (.string (txt bs)) w := by
  have hl : bs.length = n := by have := hown.1; rw [bcells_len] at this; omega
  refine run_convert_bytes_arg (P := Tryd.prog) w 22 5 Tryd.underlying22 Tryd.underlying5 g 0 n cap _ (by simp; omega) ?_ 9 Tryd.underlying9
  intro i hi
  rw [Nat.zero_add, hown.cellAt i (by omega), bcells_at bs i (by omega)]
  have : i < bs.length := by omega
  simp [gt, List.getD_eq_getElem?_getD, this]
/-- a region that is shown not to panic; the post laid open, so that its limb at a panic is seen at once -/
theorem region_calm {P : Program} {id : Nat} {ops : Array Oper} {b : Bool} {Q : Exit → Act → World → Prop} {a : Act} {w : World}
    (h : (Code.region id ops b).wp P (fun e a w => match e with | .panic _ => False | e => Q e a w) a w) : (Code.region id ops b).wp P Q a w :=
  Code.wp_mono (fun e a w h => by cases e <;> first | exact h | exact (h : False).elim) h
theorem byteInfo : ∃ i : TypeInfo, Tryd.prog.info? 5 = some i ∧ i.zero = some (.int .u8 0) ∧ i.size = 1 ∧ i.bytes = 1 := by
  have h : (Tryd.prog.info? 5).map (fun i => (i.zero, i.size, i.bytes)) = some (some (.int .u8 0), 1, 1) := by kernel_rfl
  obtain ⟨i, hi, e⟩ := Option.map_eq_some_iff.1 h
  simp only [Prod.mk.injEq] at e
  exact ⟨i, hi, e.1, e.2.1, e.2.2⟩

/-- append of bytes onto a row of the call's own, at an operation -/
theorem wp_append_bytes {o : Oper} {a : Act} {w : World} {K : Act → World → Prop} {Q : Exit → Act → World → Prop} (s x : Operand)
    (ho : o.op = .call { callee := .builtin .append, args := #[s, x], argTypes := #[22, 22] })
    (base h n h' m c : Nat) (xs ys : List Nat) (hs : a.eval s = .slice (some ⟨h, 0, none⟩) n n) (hx : a.eval x = .slice (some ⟨h', 0, none⟩) m c)
    (hrx : w.rowIs h 5 n (byteRow xs)) (hnx : xs.length = n) (hry : w.rowIs h' 5 m (byteRow ys)) (hny : ys.length = m) (hm : 0 < m) (hbd : n + m ≤ 1000000) (hb : base ≤ h) (hbw : base ≤ w.heap.size)
    (k : ∀ g cap w', w'.ownsRow base 5 1 (.slice (some ⟨g, 0, none⟩) (n + m) cap) (n + m) (bcells (xs ++ ys)) → w.grownBy w' (some h) → (h = g ∨ g = w.heap.size) → g < w'.heap.size → K (a.put o.dst (.slice (some ⟨g, 0, none⟩) (n + m) cap)) w') :
    Oper.wp Tryd.prog o a w K Q := by
  obtain ⟨i, hi, hz, hsz, hby⟩ := byteInfo
  have hml : n + m ≤ maxLen := by unfold maxLen; omega
  refine wp_append_lies w s x 22 ho base 5 i (.int .u8 0) 1 1 Tryd.underlying22 hi hz hsz hby rfl (by omega) _ n (bcells xs) hs (own_of_row hrx hnx (by omega) hb) ⟨h', 0, none⟩ m c (bcells ys) hx (by rw [bcells_len]; omega)
    (news_of_row hry hny) (bcells_one ys) hm hml (by omega) hbw _ rfl ?_
  intro g cap w' h1 h2 h3 h4
  rw [← bcells_append] at h1
  have h5 : h = g ∨ g = w.heap.size := by
    rcases h3 with h3 | h3
    · exact .inl (Option.some.inj h3)
    · exact .inr h3
  exact k g cap w' h1 h2 h5 h4

/-- the same at a step of a region that draws its order, whatever guards it -/
theorem step_append_bytes {ops : Array Oper} {o : Oper} {a : Act} {w : World} {K : Act → World → Prop} {Q : Exit → Act → World → Prop} {E : Prop} {ts : Array Value} (hw : Region.wanted o (yielded ops ts) = true) (s x : Operand)
    (ho : o.op = .call { callee := .builtin .append, args := #[s, x], argTypes := #[22, 22] })
    (base h n h' m c : Nat) (xs ys : List Nat) (hs : a.eval s = .slice (some ⟨h, 0, none⟩) n n) (hx : a.eval x = .slice (some ⟨h', 0, none⟩) m c)
    (hrx : w.rowIs h 5 n (byteRow xs)) (hnx : xs.length = n) (hry : w.rowIs h' 5 m (byteRow ys)) (hny : ys.length = m) (hm : 0 < m) (hbd : n + m ≤ 1000000) (hb : base ≤ h) (hbw : base ≤ w.heap.size)
    (k : ∀ g cap w', w'.ownsRow base 5 1 (.slice (some ⟨g, 0, none⟩) (n + m) cap) (n + m) (bcells (xs ++ ys)) → w.grownBy w' (some h) → (h = g ∨ g = w.heap.size) → g < w'.heap.size → K (a.put o.dst (.slice (some ⟨g, 0, none⟩) (n + m) cap)) w') :
    if Region.wanted o (yielded ops ts) = true then Oper.wp Tryd.prog o a w K Q else E := by
  rw [if_pos hw]
  exact wp_append_bytes s x ho base h n h' m c xs ys hs hx hrx hnx hry hny hm hbd hb hbw k

end Go.Proofs.YtdkhiooiakdecaaDoorR.Kec
