/- The sponge's two fixed answers, reckoned by the kernel. Walks: head, great; bytes as strings. Rows of bytes of the call's own: append, as strings; a guarded append in a region that draws its order. append of bytes that came in, nil let in, onto a row of the call's own. What the rows' proofs share: the three tables out of the laid list, a world for the witness, slices of bytes that came in. Slices that are held, all answers in one form. -/
import Derived.Test.YtfhibjpkbbbfpaaDoorKecM2
import Derived.Laws.BytesArg
import Derived.Deep.AppendLies
import Derived.Deep.RegionLaw
import Derived.Deep.DrawnRows
import Derived.Laws.OwnMore
import Derived.Laws.AppendOwnNone
import Derived.Test.YtfhibjpkbbbfpaaDoorCards
import Derived.Test.YtfhibjpkbbbfpaaDoorTie
import Derived.ProofKit
import Derived.OpenShut
import Derived.ShutString
import Derived.ChangeOld
import Derived.Below
import Derived.Deep.DeepHandedRow
import Derived.Lib.LaidTab
import Derived.LaidSub
import Derived.Deep.RegionHeld3
import Derived.StillTailTactics
namespace Go.Proofs.YtfhibjpkbbbfpaaDoor.Kec
set_option linter.all false
theorem shake_nil : sponge 168 31 [] 8 = [127, 156, 43, 164, 232, 143, 130, 125] := by decide +kernel
theorem sum_nil : (sponge 136 6 [] 32).take 8 = [167, 255, 198, 248, 191, 30, 215, 102] := by decide +kernel
end Go.Proofs.YtfhibjpkbbbfpaaDoor.Kec

namespace Go.Proofs.YtfhibjpkbbbfpaaDoor.Kec
set_option linter.all false
open Go.RowKit

/-- bytes as a string -/
def txt (bs : List Nat) : ByteArray := strOfNums (bs.map fun x => ((x : Nat) : Int))
theorem conv_row {w : World} {h n k c : Nat} {bs : List Nat} (hrow : w.rowIs h 5 n (byteRow bs)) (hk : k ≤ n) (hn : bs.length = n) :
    (convert 22 9 (.slice (some ⟨h, 0, none⟩) k c)).run Tryd.prog w = .ok (.string (txt (bs.take k))) w := by
  refine run_convert_bytes_arg (P := Tryd.prog) w 22 5 Tryd.underlying22 Tryd.underlying5 h 0 k c _ (by simp; omega) ?_ 9 Tryd.underlying9
  intro i hi
  rw [Nat.zero_add, hrow.cell (by omega)]
  simp [byteRow, gt, List.getD_eq_getElem?_getD, List.getElem?_take, hi]
  have : i < bs.length := by omega
  simp [this]
theorem conv_all {w : World} {h n c : Nat} {bs : List Nat} (hrow : w.rowIs h 5 n (byteRow bs)) (hn : bs.length = n) :
    (convert 22 9 (.slice (some ⟨h, 0, none⟩) n c)).run Tryd.prog w = .ok (.string (txt bs)) w := by
  have := conv_row (c := c) hrow (Nat.le_refl n) hn
  rwa [List.take_of_length_le (by omega)] at this

end Go.Proofs.YtfhibjpkbbbfpaaDoor.Kec

namespace Go.Proofs.YtfhibjpkbbbfpaaDoor.Kec
set_option linter.all false
open Go.RowKit

def bcells (bs : List Nat) : List Value := bs.map fun x => Value.int .u8 ((x : Nat) : Int)
theorem bcells_len (bs : List Nat) : (bcells bs).length = bs.length := by simp [bcells]
theorem bcells_one (bs : List Nat) : ∀ u ∈ bcells bs, u.oneCell' = true := by
  intro u hu
  obtain ⟨x, _, rfl⟩ := List.mem_map.1 hu
  rfl
theorem bcells_at (bs : List Nat) (i : Nat) (h : i < bs.length) : (bcells bs)[i]? = some (.int .u8 ((gt bs i : Nat) : Int)) := by
  simp [bcells, gt, List.getD_eq_getElem?_getD, h]
theorem bcells_append (a b : List Nat) : bcells (a ++ b) = bcells a ++ bcells b := by simp [bcells]
theorem own_of_row {w : World} {h n base : Nat} {bs : List Nat} (hrow : w.rowIs h 5 n (byteRow bs)) (hn : bs.length = n) (hm : n ≤ maxLen) (hb : base ≤ h) :
    w.ownsRow base 5 1 (.slice (some ⟨h, 0, none⟩) n n) n (bcells bs) := by
  obtain ⟨c, hc, hs, hi⟩ := hrow
  refine ⟨by rw [bcells_len]; omega, .inr ⟨h, n, c, rfl, hb, hc, Nat.le_refl _, hm, by omega, ?_⟩⟩
  apply List.ext_getElem?
  intro i
  by_cases hin : i < n
  · rw [bcells_at bs i (by omega), List.getElem?_take_of_lt (by omega), Array.getElem?_toList, hi i hin]; rfl
  · rw [List.getElem?_eq_none (by simp; omega), List.getElem?_eq_none (by rw [bcells_len]; omega)]
theorem news_of_row {w : World} {h n : Nat} {bs : List Nat} (hrow : w.rowIs h 5 n (byteRow bs)) (hn : bs.length = n) :
    ∀ j u, (bcells bs)[j]? = some u → w.cell? ((⟨h, 0, none⟩ : Addr).add j) = some u := by
  intro j u hu
  have hj : j < n := by
    rcases Nat.lt_or_ge j n with h | h
    · exact h
    · rw [List.getElem?_eq_none (by rw [bcells_len]; omega)] at hu; cases hu
  rw [bcells_at bs j (by omega)] at hu
  have ha : (⟨h, 0, none⟩ : Addr).add j = ⟨h, j, none⟩ := by unfold Addr.add; split <;> simp_all
  rw [ha, hrow.cell hj, ← hu]; rfl
theorem conv_own {w : World} {g n cap base : Nat} {bs : List Nat} (hown : w.ownsRow base 5 1 (.slice (some ⟨g, 0, none⟩) n cap) n (bcells bs)) :
    (convert 22 9 (.slice (some ⟨g, 0, none⟩) n cap)).run Tryd.prog w = .ok (.string (txt bs)) w := by
  have hl : bs.length = n := by have := hown.1; rw [bcells_len] at this; omega
  refine run_convert_bytes_arg (P := Tryd.prog) w 22 5 Tryd.underlying22 Tryd.underlying5 g 0 n cap _ (by simp; omega) ?_ 9 Tryd.underlying9
  intro i hi
  rw [Nat.zero_add, hown.cellAt i (by omega), bcells_at bs i (by omega)]
  have : i < bs.length := by omega
  simp [gt, List.getD_eq_getElem?_getD, this]
/-- a region that is shown not to panic; the post laid open, so that its limb at a panic is seen at once -/
theorem region_calm {P : Program} {id : Nat} {ops : Array Oper} {b : Bool} {Q : Exit → Act → World → Prop} {a : Act} {w : World}
    (h : (Code.region id ops b).wp P (fun e a w => match e with | .panic _ => False | e => Q e a w) a w) : (Code.region id ops b).wp P Q a w :=
  Code.wp_mono (fun e a w h => by cases e <;> first | exact h | exact (h : False).elim) h
theorem byteInfo : ∃ i : TypeInfo, Tryd.prog.info? 5 = some i ∧ i.zero = some (.int .u8 0) ∧ i.size = 1 ∧ i.bytes = 1 := by
  have h : (Tryd.prog.info? 5).map (fun i => (i.zero, i.size, i.bytes)) = some (some (.int .u8 0), 1, 1) := by kernel_rfl
  obtain ⟨i, hi, e⟩ := Option.map_eq_some_iff.1 h
  simp only [Prod.mk.injEq] at e
  exact ⟨i, hi, e.1, e.2.1, e.2.2⟩

/-- append of bytes onto a row of the call's own, at an operation -/
theorem wp_append_bytes {o : Oper} {a : Act} {w : World} {K : Act → World → Prop} {Q : Exit → Act → World → Prop} (s x : Operand)
    (ho : o.op = .call { callee := .builtin .append, args := #[s, x], argTypes := #[22, 22] })
    (base h n h' m c : Nat) (xs ys : List Nat) (hs : a.eval s = .slice (some ⟨h, 0, none⟩) n n) (hx : a.eval x = .slice (some ⟨h', 0, none⟩) m c)
    (hrx : w.rowIs h 5 n (byteRow xs)) (hnx : xs.length = n) (hry : w.rowIs h' 5 m (byteRow ys)) (hny : ys.length = m) (hm : 0 < m) (hbd : n + m ≤ 1000000) (hb : base ≤ h) (hbw : base ≤ w.heap.size)
    (k : ∀ g cap w', w'.ownsRow base 5 1 (.slice (some ⟨g, 0, none⟩) (n + m) cap) (n + m) (bcells (xs ++ ys)) → w.grownBy w' (some h) → (h = g ∨ g = w.heap.size) → g < w'.heap.size → K (a.put o.dst (.slice (some ⟨g, 0, none⟩) (n + m) cap)) w') :
    Oper.wp Tryd.prog o a w K Q := by
  obtain ⟨i, hi, hz, hsz, hby⟩ := byteInfo
  have hml : n + m ≤ maxLen := by unfold maxLen; omega
  refine wp_append_lies w s x 22 ho base 5 i (.int .u8 0) 1 1 Tryd.underlying22 hi hz hsz hby rfl (by omega) _ n (bcells xs) hs (own_of_row hrx hnx (by omega) hb) ⟨h', 0, none⟩ m c (bcells ys) hx (by rw [bcells_len]; omega)
    (news_of_row hry hny) (bcells_one ys) hm hml (by omega) hbw _ rfl ?_
  intro g cap w' h1 h2 h3 h4
  rw [← bcells_append] at h1
  have h5 : h = g ∨ g = w.heap.size := by
    rcases h3 with h3 | h3
    · exact .inl (Option.some.inj h3)
    · exact .inr h3
  exact k g cap w' h1 h2 h5 h4

/-- the same at a step of a region that draws its order, whatever guards it -/
theorem step_append_bytes {ops : Array Oper} {o : Oper} {a : Act} {w : World} {K : Act → World → Prop} {Q : Exit → Act → World → Prop} {E : Prop} {ts : Array Value} (hw : Region.wanted o (yielded ops ts) = true) (s x : Operand)
    (ho : o.op = .call { callee := .builtin .append, args := #[s, x], argTypes := #[22, 22] })
    (base h n h' m c : Nat) (xs ys : List Nat) (hs : a.eval s = .slice (some ⟨h, 0, none⟩) n n) (hx : a.eval x = .slice (some ⟨h', 0, none⟩) m c)
    (hrx : w.rowIs h 5 n (byteRow xs)) (hnx : xs.length = n) (hry : w.rowIs h' 5 m (byteRow ys)) (hny : ys.length = m) (hm : 0 < m) (hbd : n + m ≤ 1000000) (hb : base ≤ h) (hbw : base ≤ w.heap.size)
    (k : ∀ g cap w', w'.ownsRow base 5 1 (.slice (some ⟨g, 0, none⟩) (n + m) cap) (n + m) (bcells (xs ++ ys)) → w.grownBy w' (some h) → (h = g ∨ g = w.heap.size) → g < w'.heap.size → K (a.put o.dst (.slice (some ⟨g, 0, none⟩) (n + m) cap)) w') :
    if Region.wanted o (yielded ops ts) = true then Oper.wp Tryd.prog o a w K Q else E := by
  rw [if_pos hw]
  exact wp_append_bytes s x ho base h n h' m c xs ys hs hx hrx hnx hry hny hm hbd hb hbw k

theorem shake256_int (A : Option Addr) (bs : List Nat) (n c : Nat) (m : Int) (k : Nat) (w : World) (hT : Tables w) (hR : Rd w w.heap.size A bs) (hn : bs.length = n) (hm : n ≤ 9223372036854775807) (hk : k ≤ 65536) (he : m = k) :
    Calls Tryd.prog 22 #[.slice A n c, .int .i64 m] w fun e' w' => ∃ h, e' = .returned (.slice (some ⟨h, 0, none⟩) k k) ∧ w.heap.size ≤ h ∧ w'.rowIs h 5 k (byteRow (sponge 136 31 bs k)) ∧ Below w.heap.size w w' := by
  subst he
  refine (shake256_any A bs n c k w hT hR hn hm hk).mono ?_
  rintro e' w' ⟨h, h1, h2, h3, h4⟩
  rw [sponge_len] at h1 h3
  exact ⟨h, h1, h2, h3, h4⟩
end Go.Proofs.YtfhibjpkbbbfpaaDoor.Kec

namespace Go.Proofs.YtfhibjpkbbbfpaaDoor.Kec
set_option linter.all false
open Go.RowKit

theorem news_of_rd {w : World} {B : Nat} {ad : Addr} {ys : List Nat} (h : Rd w B (some ad) ys) : ∀ j u, (bcells ys)[j]? = some u → w.cell? (ad.add j) = some u := by
  intro j u hu
  have hj : j < ys.length := by
    rcases Nat.lt_or_ge j ys.length with h | h
    · exact h
    · rw [List.getElem?_eq_none (by rw [bcells_len]; omega)] at hu; cases hu
  obtain ⟨ad', e, _, hc⟩ := h.2 (by omega)
  injection e with e
  subst e
  rw [bcells_at ys j hj] at hu
  rw [hc j hj, ← hu]

theorem run_append_rd {w : World} (base g n cap m c B : Nat) (ty : TypeId) (xs ys : List Nat) (A : Option Addr) (hown : w.ownsRow base 5 1 (.slice (some ⟨g, 0, none⟩) n cap) n (bcells xs))
    (hR : Rd w B A ys) (hm : ys.length = m) (hc : A = none → c = 0) (hbd : n + m ≤ 1000000) (hbase : base ≤ w.heap.size) :
    ∃ g' cap' w', (Builtin.append_ #[22, 22] ty #[.slice (some ⟨g, 0, none⟩) n cap, .slice A m c]).run Tryd.prog w = .ok (.slice (some ⟨g', 0, none⟩) (n + m) cap') w' ∧
      w'.ownsRow base 5 1 (.slice (some ⟨g', 0, none⟩) (n + m) cap') (n + m) (bcells (xs ++ ys)) ∧ w.grownBy w' (some g) ∧ (g' = g ∨ g' = w.heap.size) := by
  obtain ⟨i, hi, hz, hsz, hby⟩ := byteInfo
  cases A with
  | none =>
    have h0 : m = 0 := by
      rcases Nat.eq_zero_or_pos m with h | h
      · exact h
      · obtain ⟨ad, e, _⟩ := hR.2 (by omega)
        cases e
    have hy : ys = [] := List.eq_nil_of_length_eq_zero (by omega)
    have hc0 := hc rfl
    subst h0 hy hc0
    refine ⟨g, cap, w, run_append_owned_none (P := Tryd.prog) (w := w) base 22 ty 5 i 1 Tryd.underlying22 hi _ n (bcells xs) hown, by simpa using hown, World.grownBy.refl _ _, .inl rfl⟩
  | some ad =>
    have hml : n + m ≤ maxLen := by unfold maxLen; omega
    obtain ⟨v', w', hrun, h1, h2, h3, h4⟩ := run_append_own_at (P := Tryd.prog) w base 22 ty 5 i (.int .u8 0) 1 1 Tryd.underlying22 hi hz hsz hby rfl (by omega) _ n (bcells xs) hown ad m c (bcells ys) (by rw [bcells_len]; omega)
      (news_of_rd hR) (bcells_one ys) hml (by omega) hbase
    rw [← bcells_append] at h1
    have hne : v' ≠ .slice none 0 0 := fun e => by have := (h3.1 e).1; cases this
    rcases h1.2 with ⟨e, _⟩ | ⟨g', cap', cur, e, _⟩
    · exact absurd e hne
    · subst e
      refine ⟨g', cap', w', hrun, h1, h2, ?_⟩
      rcases h4 with h4 | h4
      · exact .inl (Option.some.inj h4)
      · exact .inr (Option.some.inj h4)

theorem wp_append_rd {o : Oper} {a : Act} {w : World} {K : Act → World → Prop} {Q : Exit → Act → World → Prop} (s x : Operand)
    (ho : o.op = .call { callee := .builtin .append, args := #[s, x], argTypes := #[22, 22] }) (base g n cap m c B : Nat) (xs ys : List Nat) (A : Option Addr)
    (hs : a.eval s = .slice (some ⟨g, 0, none⟩) n cap) (hx : a.eval x = .slice A m c)
    (hown : w.ownsRow base 5 1 (.slice (some ⟨g, 0, none⟩) n cap) n (bcells xs)) (hR : Rd w B A ys) (hm : ys.length = m) (hc : A = none → c = 0) (hbd : n + m ≤ 1000000) (hbase : base ≤ w.heap.size)
    (k : ∀ g' cap' w', w'.ownsRow base 5 1 (.slice (some ⟨g', 0, none⟩) (n + m) cap') (n + m) (bcells (xs ++ ys)) → w.grownBy w' (some g) → (g' = g ∨ g' = w.heap.size) → K (a.put o.dst (.slice (some ⟨g', 0, none⟩) (n + m) cap')) w') :
    Oper.wp Tryd.prog o a w K Q := by
  obtain ⟨g', cap', w', hrun, h1, h2, h3⟩ := run_append_rd base g n cap m c B o.type xs ys A hown hR hm hc hbd hbase
  unfold Oper.wp execOp
  simp only [ho, resolve, invoke, builtin, Sem.run_bind, Sem.run_pure, Result.andThen_ok, List.map_toArray, List.map_cons, List.map_nil, hs, hx, hrun]
  exact k g' cap' w' h1 h2 h3
theorem wpList_append_rd {ops : Array Oper} {rest : List Oper} {o : Oper} {a : Act} {w : World} {Q : Exit → Act → World → Prop} (hgd : o.guard = none) (s x : Operand)
    (ho : o.op = .call { callee := .builtin .append, args := #[s, x], argTypes := #[22, 22] }) (base g n cap m c B : Nat) (xs ys : List Nat) (A : Option Addr)
    (hs : a.eval s = .slice (some ⟨g, 0, none⟩) n cap) (hx : a.eval x = .slice A m c)
    (hown : w.ownsRow base 5 1 (.slice (some ⟨g, 0, none⟩) n cap) n (bcells xs)) (hR : Rd w B A ys) (hm : ys.length = m) (hc : A = none → c = 0) (hbd : n + m ≤ 1000000) (hbase : base ≤ w.heap.size)
    (k : ∀ g' cap' w', w'.ownsRow base 5 1 (.slice (some ⟨g', 0, none⟩) (n + m) cap') (n + m) (bcells (xs ++ ys)) → w.grownBy w' (some g) → (g' = g ∨ g' = w.heap.size) → wpList Tryd.prog ops Q rest (a.put o.dst (.slice (some ⟨g', 0, none⟩) (n + m) cap')) w') :
    wpList Tryd.prog ops Q (o :: rest) a w :=
  wpList_plain hgd fun _ hK => wp_append_rd s x ho base g n cap m c B xs ys A hs hx hown hR hm hc hbd hbase fun g' cap' w' h1 h2 h3 => hK _ _ (k g' cap' w' h1 h2 h3)
/-- the same at a step of a region that draws its order -/
theorem step_append_rd {ops : Array Oper} {o : Oper} {a : Act} {w : World} {K : Act → World → Prop} {Q : Exit → Act → World → Prop} {E : Prop} {ts : Array Value} (hw : Region.wanted o (yielded ops ts) = true) (s x : Operand)
    (ho : o.op = .call { callee := .builtin .append, args := #[s, x], argTypes := #[22, 22] }) (base g n cap m c B : Nat) (xs ys : List Nat) (A : Option Addr)
    (hs : a.eval s = .slice (some ⟨g, 0, none⟩) n cap) (hx : a.eval x = .slice A m c)
    (hown : w.ownsRow base 5 1 (.slice (some ⟨g, 0, none⟩) n cap) n (bcells xs)) (hR : Rd w B A ys) (hm : ys.length = m) (hc : A = none → c = 0) (hbd : n + m ≤ 1000000) (hbase : base ≤ w.heap.size)
    (k : ∀ g' cap' w', w'.ownsRow base 5 1 (.slice (some ⟨g', 0, none⟩) (n + m) cap') (n + m) (bcells (xs ++ ys)) → w.grownBy w' (some g) → (g' = g ∨ g' = w.heap.size) → K (a.put o.dst (.slice (some ⟨g', 0, none⟩) (n + m) cap')) w') :
    if Region.wanted o (yielded ops ts) = true then Oper.wp Tryd.prog o a w K Q else E := by
  rw [if_pos hw]
  exact wp_append_rd s x ho base g n cap m c B xs ys A hs hx hown hR hm hc hbd hbase k

/-- a row of one's own, read as a slice that is handed in -/
theorem rd_of_own {w : World} {base g n cap B : Nat} {xs : List Nat} (hown : w.ownsRow base 5 1 (.slice (some ⟨g, 0, none⟩) n cap) n (bcells xs)) (hx : ∀ j, gt xs j < 256) (hB : w.heap.size ≤ B) : Rd w B (some ⟨g, 0, none⟩) xs := by
  have hl : xs.length = n := by have := hown.1; rw [bcells_len] at this; omega
  have hlt : g < w.heap.size := (hown.lt g rfl).2
  refine ⟨hx, fun _ => ⟨_, rfl, by show g < B; omega, fun j hj => ?_⟩⟩
  have ha : (⟨g, 0, none⟩ : Addr).add j = ⟨g, j, none⟩ := by unfold Addr.add; split <;> simp_all
  rw [ha, hown.cellAt j (by omega), bcells_at xs j hj]
theorem gt_append_lt {a b : List Nat} (ha : ∀ j, gt a j < 256) (hb : ∀ j, gt b j < 256) : ∀ j, gt (a ++ b) j < 256 := by
  intro j
  have h1 := ha j; have h2 := hb (j - a.length)
  unfold gt at *
  rw [List.getD_eq_getElem?_getD, List.getElem?_append]
  split
  · rwa [List.getD_eq_getElem?_getD] at h1
  · rwa [List.getD_eq_getElem?_getD] at h2
theorem gt_lt_of_mem {a : List Nat} (h : ∀ x ∈ a, x < 256) : ∀ j, gt a j < 256 := by
  intro j
  unfold gt
  rw [List.getD_eq_getElem?_getD]
  by_cases hj : j < a.length
  · rw [List.getElem?_eq_getElem hj]; exact h _ (List.getElem_mem _)
  · rw [List.getElem?_eq_none (by omega)]; decide
end Go.Proofs.YtfhibjpkbbbfpaaDoor.Kec

namespace Go.Proofs.YtfhibjpkbbbfpaaDoor.Kec
set_option linter.all false
open Go.ChangeShapes Go.WideShapes Go.ChangeAt Go.RowKit

theorem own : ownKnob Tryd.prog.godebug = none := by kernel_rfl
theorem laidOut : laidOutB Tryd.prog = true := by kernel_rfl
def laidList : List (String × DataW Unit) := [("sodality/keccak.roundConstants", Rows.laid_sodality_keccak_roundConstants), ("sodality/keccak.turns", Rows.laid_sodality_keccak_turns), ("sodality/keccak.places", Rows.laid_sodality_keccak_places)]

theorem gRounds : Tryd.prog.globalNamed "sodality/keccak.roundConstants" = some 1 := by kernel_rfl
theorem gTurns : Tryd.prog.globalNamed "sodality/keccak.turns" = some 4 := by kernel_rfl
theorem gPlaces : Tryd.prog.globalNamed "sodality/keccak.places" = some 3 := by kernel_rfl

theorem tabAt_of_is {W : World} {name : String} {g : Nat} {k : IntKind} {l : List Nat} (hg : Tryd.prog.globalNamed name = some g) (h : Lib.TabIs Tryd.prog W name k (l.map fun x => ((x : Nat) : Int))) : TabAt W g k l := by
  unfold Lib.TabIs World.var? at h
  rw [hg] at h
  simp only [Option.bind_some] at h
  split at h
  · rename_i cs t fr hb
    refine ⟨t, fr, ?_⟩
    rw [hb]
    have e : cs = numsOf k l := by
      have := Option.some.inj h
      rw [this]; simp [numsOf, List.map_map, Function.comp_def]
    rw [e]
  · cases h

theorem tables_of {W : World} (h : laidMetH Tryd.prog laidList W) (hG : 6 ≤ W.heap.size) : Tables W := by
  have h0 : laidMet Tryd.prog laidList W := h
  have h1 : laidMet Tryd.prog [("sodality/keccak.roundConstants", Rows.laid_sodality_keccak_roundConstants)] W := h0.filter (fun x => x.1 == "sodality/keccak.roundConstants")
  have h2 : laidMet Tryd.prog [("sodality/keccak.turns", Rows.laid_sodality_keccak_turns)] W := h0.filter (fun x => x.1 == "sodality/keccak.turns")
  have h3 : laidMet Tryd.prog [("sodality/keccak.places", Rows.laid_sodality_keccak_places)] W := h0.filter (fun x => x.1 == "sodality/keccak.places")
  exact ⟨hG, tabAt_of_is gRounds (Lib.tabIs_of_head (rest := []) gRounds (t := 97) (by kernel_rfl) Tryd.underlying97 Tryd.underlying71 (by kernel_rfl) (by kernel_rfl) h1),
    tabAt_of_is gTurns (Lib.tabIs_of_head (rest := []) gTurns (t := 108) (by kernel_rfl) Tryd.underlying108 Tryd.underlying3 (by kernel_rfl) (by kernel_rfl) h2),
    tabAt_of_is gPlaces (Lib.tabIs_of_head (rest := []) gPlaces (t := 108) (by kernel_rfl) Tryd.underlying108 Tryd.underlying3 (by kernel_rfl) (by kernel_rfl) h3)⟩

/-- a world for the witness: the settled one, the tables as their initialisers lay them -/
noncomputable def laidWorld (os : Os) : World :=
  let w := World.holding Tryd.prog os ⟨#[], #[], []⟩
  { w with heap := ((w.heap.modify 1 fun | .cells _ t fr => .cells (numsOf .u64 roundsT) t fr | o => o).modify 4 fun | .cells _ t fr => .cells (numsOf .i64 turnsT) t fr | o => o).modify 3 fun | .cells _ t fr => .cells (numsOf .i64 placesT) t fr | o => o }
theorem laid_met (os : Os) (args : Array Value) : laidMet Tryd.prog laidList ((laidWorld os).forCall (fun _ _ => 0) ⟨#[], args, []⟩).memory :=
  laidMet_of_run' 8 (by kernel_rfl) (by kernel_rfl)

/-- a slice of bytes that came in -/
def IsRow (k : IntKind) (w : World) (a : Option Addr) (len cap : Nat) (zs : List Int) : Prop :=
  (a = none ∧ len = 0 ∧ cap = 0 ∧ zs = []) ∨
  ∃ x, a = some x ∧ len ≤ cap ∧ cap ≤ maxLen ∧ zs.length = cap ∧ (∀ i, i < zs.length → w.cell? (x.add i) = some (.int k (zs.getD i 0))) ∧ ∀ n ∈ zs, (Lit.int k n).wf = true
def bytesOf (zs : List Int) (len : Nat) : List Nat := (zs.take len).map Int.toNat
theorem rd_of_row {w : World} {a : Option Addr} {len cap : Nat} {zs : List Int} (h : IsRow .u8 w a len cap zs) :
    Rd w w.heap.size a (bytesOf zs len) ∧ (bytesOf zs len).length = len ∧ len ≤ 9223372036854775807 := by
  rcases h with ⟨rfl, rfl, rfl, rfl⟩ | ⟨x, rfl, h1, h2, h3, h4, h5⟩
  · exact ⟨Rd.nil _ _ _, rfl, by omega⟩
  · have hlen : (bytesOf zs len).length = len := by simp [bytesOf]; omega
    have hb : ∀ n ∈ zs, 0 ≤ n ∧ n < 256 := fun n hn => by
      have := h5 n hn
      simp [Lit.wf, IntKind.min, IntKind.max, IntKind.bits, IntKind.signed] at this
      omega
    have hat : ∀ j, j < len → zs.getD j 0 ∈ zs := fun j hj => by
      rw [List.getD_eq_getElem?_getD, List.getElem?_eq_getElem (by omega)]; exact List.getElem_mem _
    have hg : ∀ j, j < len → gt (bytesOf zs len) j = (zs.getD j 0).toNat := fun j hj => by
      unfold gt bytesOf
      rw [List.getD_eq_getElem?_getD, List.getD_eq_getElem?_getD, List.getElem?_map, List.getElem?_take_of_lt hj, List.getElem?_eq_getElem (by omega)]; rfl
    refine ⟨⟨fun j => ?_, fun hn => ⟨x, rfl, ?_, fun j hj => ?_⟩⟩, hlen, by unfold maxLen at h2; omega⟩
    · by_cases hj : j < len
      · rw [hg j hj]; have := hb _ (hat j hj); omega
      · rw [gt_ge _ _ (by omega)]; omega
    · rw [hlen] at hn
      have := h4 0 (by omega)
      have hlt := block_lt_of_cell this
      unfold Addr.add at hlt
      simpa using hlt
    · rw [hlen] at hj
      rw [h4 j (by omega), hg j hj]
      have := hb _ (hat j hj)
      congr 2
      omega

theorem byte_of_wf {x : Int} (h : (Lit.int .u8 x).wf = true) : ∃ k : Nat, x = k ∧ k < 256 := by
  simp [Lit.wf, IntKind.min, IntKind.max, IntKind.bits, IntKind.signed] at h
  exact ⟨x.toNat, by omega, by omega⟩

end Go.Proofs.YtfhibjpkbbbfpaaDoor.Kec

namespace Go.Proofs.YtfhibjpkbbbfpaaDoor.Kec
set_option linter.all false
open Go.RowKit

theorem own_cap {w : World} {base h n cap : Nat} {xs : List Value} (h1 : w.ownsRow base 5 1 (.slice (some ⟨h, 0, none⟩) n cap) n xs) : n ≤ cap ∧ cap ≤ maxLen := by
  rcases h1.2 with ⟨e, _⟩ | ⟨g, c, cur, e, _, _, h2, h3, _⟩
  · cases e
  · injection e with _ _ e3
    subst e3
    exact ⟨h2, h3⟩
theorem wpAnyH_more {P : Program} {md : Region.Mode} {ops : Array Oper} {Q : Exit → Act → World → Prop} {S S' : World → Prop} (h : ∀ w, S' w → S w) : ∀ (fuel : Nat) (listed : Array Bool) (a : Act) (w : World), wpAnyH P md ops Q S' fuel listed a w → wpAnyH P md ops Q S fuel listed a w
  | 0, _, _, _, h' => h'
  | fuel + 1, _, _, _, h' => ⟨h'.1, fun i hi => wpOp_mono (fun a' w' k => ⟨h _ k.1, wpAnyH_more h fuel _ a' w' k.2⟩) (h'.2 i hi)⟩
theorem own_below {w w' : World} {base B g n cap : Nat} {xs : List Value} (h : w.ownsRow base 5 1 (.slice (some ⟨g, 0, none⟩) n cap) n xs) (hb : Below B w w') (hB : w.heap.size ≤ B) : w'.ownsRow base 5 1 (.slice (some ⟨g, 0, none⟩) n cap) n xs :=
  h.kept ⟨hb.os, hb.tape, hb.output, hb.size, fun i hi _ => hb.block i (by omega)⟩ (.inr (by simp [Value.ownBlock] : Value.ownBlock _ ≠ none))
def Bytes (w : World) (g n : Nat) : Prop := ∃ cur : Array Value, w.heap[g]? = some (.cells cur 5 (0, 0)) ∧ ∀ i, i < n → ∃ z : Int, cur[i]? = some (.int .u8 z)
theorem Bytes.cell {w : World} {g n : Nat} (h : Bytes w g n) (i : Nat) (hi : i < n) : ∃ z : Int, w.cell? ⟨g, i, none⟩ = some (.int .u8 z) := by
  obtain ⟨cur, h1, h2⟩ := h
  obtain ⟨z, hz⟩ := h2 i hi
  exact ⟨z, by rw [cell_of_row w g i cur 5 (0, 0) h1, hz]⟩
theorem Bytes.frozen {w : World} {g n : Nat} (h : Bytes w g n) (i : Nat) : w.frozen? ⟨g, i, none⟩ = false := by
  obtain ⟨cur, h1, _⟩ := h
  simp [World.frozen?, h1]
theorem Bytes.set {w : World} {g n : Nat} (h : Bytes w g n) (i : Nat) (z : Int) : Bytes (w.setCell ⟨g, i, none⟩ (.int .u8 z)) g n := by
  obtain ⟨cur, h1, h2⟩ := h
  refine ⟨cur.setIfInBounds i (.int .u8 z), ?_, fun j hj => ?_⟩
  · rw [setCell_eq_setRow w g i cur 5 (0, 0) (.int .u8 z) h1]
    exact setRow_heap w g _ _ 5 _ h1
  · obtain ⟨y, hy⟩ := h2 j hj
    rw [Array.getElem?_setIfInBounds]
    by_cases e : i = j
    · subst e
      have : i < cur.size := by
        rcases Nat.lt_or_ge i cur.size with h | h
        · exact h
        · rw [Array.getElem?_eq_none h] at hy; cases hy
      exact ⟨z, by simp [this]⟩
    · exact ⟨y, by rw [if_neg e]; exact hy⟩
theorem Bytes.drew {w : World} {g n : Nat} (h : Bytes w g n) : Bytes w.drew g n := h
theorem bytes_of_own {w : World} {base g n cap : Nat} {xs : List Nat} (h : w.ownsRow base 5 1 (.slice (some ⟨g, 0, none⟩) n cap) n (bcells xs)) : Bytes w g n := by
  have hl : xs.length = n := by have := h.1; rw [bcells_len] at this; omega
  rcases h.2 with ⟨e, _⟩ | ⟨g', c, cur, e, _, hc, _, _, hs, ht⟩
  · cases e
  · injection e with e1 _ _
    have e2 : (⟨g, 0, none⟩ : Addr) = ⟨g', 0, none⟩ := Option.some.inj e1
    injection e2 with e3
    subst e3
    refine ⟨cur, hc, fun i hi => ⟨(gt xs i : Nat), ?_⟩⟩
    have h5 := bcells_at xs i (by omega)
    rw [← ht, Nat.mul_one, List.getElem?_take_of_lt hi, Array.getElem?_toList] at h5
    exact h5
theorem own_slice {w : World} {base n : Nat} {v : Value} {xs : List Nat} (h : w.ownsRow base 5 1 v n (bcells xs)) (hx : ∀ j, gt xs j < 256) :
    ∃ (A : Option Addr) (c : Nat), v = .slice A n c ∧ (A = none → c = 0) ∧ n ≤ c ∧ c ≤ 9223372036854775807 ∧ Rd w w.heap.size A xs ∧ xs.length = n ∧ (∀ g, Value.ownBlock v = some g → base ≤ g ∧ g < w.heap.size) := by
  have hl : xs.length = n := by have := h.1; rw [bcells_len] at this; omega
  have h' := h
  rcases h.2 with ⟨e, h0⟩ | ⟨g, c, cur, e, hb, hc, h1, h2, _⟩
  · subst e h0
    have hx0 : xs = [] := List.eq_nil_of_length_eq_zero hl
    subst hx0
    exact ⟨none, 0, rfl, fun _ => rfl, by omega, by omega, Rd.nil _ _ _, rfl, fun g e => by cases e⟩
  · subst e
    refine ⟨some ⟨g, 0, none⟩, c, rfl, fun e => (by cases e), h1, h2, rd_of_own h' hx (Nat.le_refl _), hl, fun g' e => ?_⟩
    have e' : g = g' := Option.some.inj e
    subst e'
    exact h'.lt g rfl
theorem nil_own (w : World) {base : Nat} (h : base ≤ w.heap.size) : (w.alloc (.cells #[] 5)).ownsRow base 5 1 (.slice (some ⟨w.heap.size, 0, none⟩) 0 0) 0 (bcells []) := World.ownsRow_made w #[] 0 h (by unfold maxLen; omega) rfl
theorem foldl_push (ns : List Int) : ∀ r : ByteArray, ns.foldl (fun r n => r.push (UInt8.ofNat n.toNat)) r = ⟨r.data ++ (ns.map fun n => UInt8.ofNat n.toNat).toArray⟩ := by
  induction ns with
  | nil => intro r; simp
  | cons n ns ih => intro r; rw [List.foldl_cons, ih]; simp [ByteArray.push]
theorem conv_rd {w : World} {B : Nat} {A : Option Addr} {bs : List Nat} {n c : Nat} (hR : Rd w B A bs) (hn : bs.length = n) :
    (convert 22 9 (.slice A n c)).run Tryd.prog w = .ok (.string (txt bs)) w := by
  rw [run_convert_bytes_string w 22 9 5 A n c Tryd.underlying22 Tryd.underlying5 Tryd.underlying9]
  cases A with
  | none =>
    have h0 : n = 0 := by
      rcases Nat.eq_zero_or_pos n with h | h
      · exact h
      · obtain ⟨ad, e, _⟩ := hR.2 (by omega)
        cases e
    subst h0
    obtain rfl : bs = [] := List.eq_nil_of_length_eq_zero hn
    simp [Conv.bytesToString]
    rfl
  | some ad =>
    have hl : (loadCells ad n).run Tryd.prog w = .ok ((bs.map fun x => ((x : Nat) : Int)).map (Value.int .u8)).toArray w := by
      have := run_loadCells_list (P := Tryd.prog) w ad (bcells bs) (fun j v hv => news_of_rd hR j v hv)
      rw [bcells_len, hn] at this
      rw [this, List.map_map]; rfl
    rw [run_bytesToString w ad n c _ hl, foldl_push]
    simp [txt, strOfNums]
theorem own_down {w : World} {base base' n : Nat} {v : Value} {xs : List Value} (h : w.ownsRow base 5 1 v n xs) (hb : base' ≤ base) : w.ownsRow base' 5 1 v n xs := by
  refine ⟨h.1, ?_⟩
  rcases h.2 with h2 | ⟨g, c, cur, he, hbase, rest⟩
  · exact .inl h2
  · exact .inr ⟨g, c, cur, he, by omega, rest⟩
def Held (lo : Nat) (v : Value) (bs : List Nat) (w : World) : Prop :=
  ∃ (A : Option Addr) (n c : Nat), v = .slice A n c ∧ Rd w w.heap.size A bs ∧ bs.length = n ∧ ∀ ad, A = some ad → lo ≤ ad.block
theorem Held.none (lo : Nat) (w : World) : Held lo (.slice none 0 0) [] w := ⟨.none, 0, 0, rfl, Rd.nil _ _ _, rfl, fun _ e => by cases e⟩
theorem Held.of_own {lo base n : Nat} {w : World} {v : Value} {bs : List Nat} (h : w.ownsRow base 5 1 v n (bcells bs)) (hx : ∀ j, gt bs j < 256) (hb : lo ≤ base) : Held lo v bs w := by
  obtain ⟨A, c, rfl, -, -, -, hrd, hlen, hblk⟩ := own_slice h hx
  refine ⟨A, n, c, rfl, hrd, hlen, fun ad e => ?_⟩
  subst e
  have := (hblk ad.block rfl).1
  omega
theorem Held.lower {lo lo' : Nat} {v : Value} {bs : List Nat} {w : World} (h : Held lo v bs w) (hl : lo' ≤ lo) : Held lo' v bs w := by
  obtain ⟨A, n, c, e, h1, h2, h3⟩ := h
  exact ⟨A, n, c, e, h1, h2, fun ad e => Nat.le_trans hl (h3 ad e)⟩
theorem Held.below {lo : Nat} {v : Value} {bs : List Nat} {w w' : World} (h : Held lo v bs w) (hb : Below w.heap.size w w') : Held lo v bs w' := by
  obtain ⟨A, n, c, e, h1, h2, h3⟩ := h
  exact ⟨A, n, c, e, (h1.below hb).more hb.size, h2, h3⟩
theorem Held.kept {lo : Nat} {v : Value} {bs : List Nat} {w w' : World} (h : Held lo v bs w) (hs : w.heap.size ≤ w'.heap.size) (hc : ∀ p : Addr, lo ≤ p.block → p.block < w.heap.size → w'.cell? p = w.cell? p) : Held lo v bs w' := by
  obtain ⟨A, n, c, e, h1, h2, h3⟩ := h
  refine ⟨A, n, c, e, ⟨h1.1, fun hn => ?_⟩, h2, h3⟩
  obtain ⟨ad, ha, hlt, hr⟩ := h1.2 hn
  refine ⟨ad, ha, by omega, fun j hj => ?_⟩
  have hbl : (ad.add j).block = ad.block := by unfold Addr.add; split <;> rfl
  rw [hc _ (by rw [hbl]; exact h3 ad ha) (by rw [hbl]; exact hlt)]
  exact hr j hj
theorem Held.conv {lo : Nat} {v : Value} {bs : List Nat} {w : World} (h : Held lo v bs w) : (convert 22 9 v).run Tryd.prog w = .ok (.string (txt bs)) w := by
  obtain ⟨A, n, c, rfl, h1, h2, -⟩ := h
  exact conv_rd h1 h2
def Told (bs : List Nat) (w : World) (e : Ending) (w' : World) : Prop := ∃ v, e = .returned v ∧ Held w.heap.size v bs w' ∧ Below w.heap.size w w'
theorem Bytes.grown {w w' : World} {g g' n : Nat} (h : Bytes w g n) (hg : w.grownBy w' (some g')) (hne : g ≠ g') : Bytes w' g n := by
  obtain ⟨cur, h1, h2⟩ := h
  have hlt : g < w.heap.size := (Array.getElem?_eq_some_iff.1 h1).1
  exact ⟨cur, (hg.block g hlt (by intro e; injection e; omega)).trans h1, h2⟩
theorem Held.grown {lo g : Nat} {v : Value} {bs : List Nat} {w w' : World} (h : Held lo v bs w) (hg : w.grownBy w' (some g)) (hl : g < lo) : Held lo v bs w' :=
  h.kept hg.size fun p h1 h2 => World.cell?_of_block (hg.block p.block h2 (by intro e; injection e; omega))
theorem Held.drew {lo : Nat} {v : Value} {bs : List Nat} {w : World} (h : Held lo v bs w) : Held lo v bs w.drew := h.kept (Nat.le_refl _) fun _ _ _ => rfl
end Go.Proofs.YtfhibjpkbbbfpaaDoor.Kec
