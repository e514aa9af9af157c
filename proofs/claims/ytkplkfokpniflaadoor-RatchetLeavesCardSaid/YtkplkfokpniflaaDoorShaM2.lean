/- Rows of bytes of the call's own: append, as strings. Walks: endOf, told. Walks: New, Sum of a hash, Sum. The two fixed answers, reckoned by the kernel. Common to the laws over sha2: sums, rows of one's own, appends. -/
import Derived.Test.YtkplkfokpniflaaDoorShaM1
import Derived.Deep.AppendLies
import Derived.Deep.RegionLaw
import Derived.Deep.DrawnRows
import Derived.Laws.OwnMore
import Derived.Laws.AppendOwnNone
import Derived.Laws.BytesArg
import Derived.IntWalk
import Derived.Lib.SlBytesConst
import Derived.Deep.RegionHeld3
namespace Go.Proofs.YtkplkfokpniflaaDoor.Sha
set_option linter.all false
open Go.RowKit

def byteRow (bs : List Nat) : Nat → Value := wordRow .u8 bs
theorem bcells_append (a b : List Nat) : bcells (a ++ b) = bcells a ++ bcells b := by simp [bcells]
/-- bytes as a string -/
def txt (bs : List Nat) : ByteArray := strOfNums (bs.map fun x => ((x : Nat) : Int))
theorem own_of_row {w : World} {h n base : Nat} {bs : List Nat} (hrow : w.rowIs h 5 n (byteRow bs)) (hn : bs.length = n) (hm : n ≤ maxLen) (hb : base ≤ h) :
    w.ownsRow base 5 1 (.slice (some ⟨h, 0, none⟩) n n) n (bcells bs) := by
  obtain ⟨c, hc, hs, hi⟩ := hrow
  refine ⟨by rw [bcells_len]; omega, .inr ⟨h, n, c, rfl, hb, hc, Nat.le_refl _, hm, by omega, ?_⟩⟩
  apply List.ext_getElem?
  intro i
  by_cases hin : i < n
  · rw [bcells_at bs i (by omega), List.getElem?_take_of_lt (by omega), Array.getElem?_toList, hi i hin]; rfl
  · rw [List.getElem?_eq_none (by simp; omega), List.getElem?_eq_none (by rw [bcells_len]; omega)]
theorem news_of_row {w : World} {h n : Nat} {bs : List Nat} (hrow : w.rowIs h 5 n (byteRow bs)) (hn : bs.length = n) :
    ∀ j u, (bcells bs)[j]? = some u → w.cell? ((⟨h, 0, none⟩ : Addr).add j) = some u := by
  intro j u hu
  have hj : j < n := by
    rcases Nat.lt_or_ge j n with h | h
    · exact h
    · rw [List.getElem?_eq_none (by rw [bcells_len]; omega)] at hu; cases hu
  rw [bcells_at bs j (by omega)] at hu
  have ha : (⟨h, 0, none⟩ : Addr).add j = ⟨h, j, none⟩ := by unfold Addr.add; split <;> simp_all
  rw [ha, hrow.cell hj, ← hu]; rfl
theorem conv_own {w : World} {g n cap base : Nat} {bs : List Nat} (hown : w.ownsRow base 5 1 (.slice (some ⟨g, 0, none⟩) n cap) n (bcells bs)) :
    (convert 22 9 (.slice (some ⟨g, 0, none⟩) n cap)).run Tryd.prog w = .ok (.string (txt bs)) w := by
  have hl : bs.length = n := by have := hown.1; rw [bcells_len] at this; omega
  refine run_convert_bytes_arg (P := Tryd.prog) w 22 5 Tryd.underlying22 Tryd.underlying5 g 0 n cap _ (by simp; omega) ?_ 9 Tryd.underlying9
  intro i hi
  rw [Nat.zero_add, hown.cellAt i (by omega), bcells_at bs i (by omega)]
  have : i < bs.length := by omega
  simp [gt, List.getD_eq_getElem?_getD, this]
/-- a region that is shown not to panic -/
theorem region_calm {P : Program} {id : Nat} {ops : Array Oper} {b : Bool} {Q : Exit → Act → World → Prop} {a : Act} {w : World}
    (h : (Code.region id ops b).wp P (fun e a w => match e with | .panic _ => False | e => Q e a w) a w) : (Code.region id ops b).wp P Q a w :=
  Code.wp_mono (fun e a w h => by cases e <;> first | exact h | exact (h : False).elim) h
theorem byteInfo : ∃ i : TypeInfo, Tryd.prog.info? 5 = some i ∧ i.zero = some (.int .u8 0) ∧ i.size = 1 ∧ i.bytes = 1 := by
  have h : (Tryd.prog.info? 5).map (fun i => (i.zero, i.size, i.bytes)) = some (some (.int .u8 0), 1, 1) := by kernel_rfl
  obtain ⟨i, hi, e⟩ := Option.map_eq_some_iff.1 h
  simp only [Prod.mk.injEq] at e
  exact ⟨i, hi, e.1, e.2.1, e.2.2⟩
theorem news_of_rd {w : World} {B : Nat} {ad : Addr} {ys : List Nat} (h : Rd w B (some ad) ys) : ∀ j u, (bcells ys)[j]? = some u → w.cell? (ad.add j) = some u := by
  intro j u hu
  have hj : j < ys.length := by
    rcases Nat.lt_or_ge j ys.length with h | h
    · exact h
    · rw [List.getElem?_eq_none (by rw [bcells_len]; omega)] at hu; cases hu
  obtain ⟨ad', e, _, hc⟩ := h.2 (by omega)
  injection e with e
  subst e
  rw [bcells_at ys j hj] at hu
  rw [hc j hj, ← hu]
theorem run_append_rd {w : World} (base g n cap m c B : Nat) (ty : TypeId) (xs ys : List Nat) (A : Option Addr) (hown : w.ownsRow base 5 1 (.slice (some ⟨g, 0, none⟩) n cap) n (bcells xs))
    (hR : Rd w B A ys) (hm : ys.length = m) (hc : A = none → c = 0) (hbd : n + m ≤ 1000000) (hbase : base ≤ w.heap.size) :
    ∃ g' cap' w', (Builtin.append_ #[22, 22] ty #[.slice (some ⟨g, 0, none⟩) n cap, .slice A m c]).run Tryd.prog w = .ok (.slice (some ⟨g', 0, none⟩) (n + m) cap') w' ∧
      w'.ownsRow base 5 1 (.slice (some ⟨g', 0, none⟩) (n + m) cap') (n + m) (bcells (xs ++ ys)) ∧ w.grownBy w' (some g) ∧ (g' = g ∨ g' = w.heap.size) := by
  obtain ⟨i, hi, hz, hsz, hby⟩ := byteInfo
  cases A with
  | none =>
    have h0 : m = 0 := by
      rcases Nat.eq_zero_or_pos m with h | h
      · exact h
      · obtain ⟨ad, e, _⟩ := hR.2 (by omega)
        cases e
    have hy : ys = [] := List.eq_nil_of_length_eq_zero (by omega)
    have hc0 := hc rfl
    subst h0 hy hc0
    refine ⟨g, cap, w, run_append_owned_none (P := Tryd.prog) (w := w) base 22 ty 5 i 1 Tryd.underlying22 hi _ n (bcells xs) hown, by simpa using hown, World.grownBy.refl _ _, .inl rfl⟩
  | some ad =>
    have hml : n + m ≤ maxLen := by unfold maxLen; omega
    obtain ⟨v', w', hrun, h1, h2, h3, h4⟩ := run_append_own_at (P := Tryd.prog) w base 22 ty 5 i (.int .u8 0) 1 1 Tryd.underlying22 hi hz hsz hby rfl (by omega) _ n (bcells xs) hown ad m c (bcells ys) (by rw [bcells_len]; omega)
      (news_of_rd hR) (bcells_one ys) hml (by omega) hbase
    rw [← bcells_append] at h1
    have hne : v' ≠ .slice none 0 0 := fun e => by have := (h3.1 e).1; cases this
    rcases h1.2 with ⟨e, _⟩ | ⟨g', cap', cur, e, _⟩
    · exact absurd e hne
    · subst e
      refine ⟨g', cap', w', hrun, h1, h2, ?_⟩
      rcases h4 with h4 | h4
      · exact .inl (Option.some.inj h4)
      · exact .inr (Option.some.inj h4)
theorem wp_append_rd {o : Oper} {a : Act} {w : World} {K : Act → World → Prop} {Q : Exit → Act → World → Prop} (s x : Operand)
    (ho : o.op = .call { callee := .builtin .append, args := #[s, x], argTypes := #[22, 22] }) (base g n cap m c B : Nat) (xs ys : List Nat) (A : Option Addr)
    (hs : a.eval s = .slice (some ⟨g, 0, none⟩) n cap) (hx : a.eval x = .slice A m c)
    (hown : w.ownsRow base 5 1 (.slice (some ⟨g, 0, none⟩) n cap) n (bcells xs)) (hR : Rd w B A ys) (hm : ys.length = m) (hc : A = none → c = 0) (hbd : n + m ≤ 1000000) (hbase : base ≤ w.heap.size)
    (k : ∀ g' cap' w', w'.ownsRow base 5 1 (.slice (some ⟨g', 0, none⟩) (n + m) cap') (n + m) (bcells (xs ++ ys)) → w.grownBy w' (some g) → (g' = g ∨ g' = w.heap.size) → K (a.put o.dst (.slice (some ⟨g', 0, none⟩) (n + m) cap')) w') :
    Oper.wp Tryd.prog o a w K Q := by
  obtain ⟨g', cap', w', hrun, h1, h2, h3⟩ := run_append_rd base g n cap m c B o.type xs ys A hown hR hm hc hbd hbase
  unfold Oper.wp execOp
  simp only [ho, resolve, invoke, builtin, Sem.run_bind, Sem.run_pure, Result.andThen_ok, List.map_toArray, List.map_cons, List.map_nil, hs, hx, hrun]
  exact k g' cap' w' h1 h2 h3
theorem wpList_append_rd {ops : Array Oper} {rest : List Oper} {o : Oper} {a : Act} {w : World} {Q : Exit → Act → World → Prop} (hgd : o.guard = none) (s x : Operand)
    (ho : o.op = .call { callee := .builtin .append, args := #[s, x], argTypes := #[22, 22] }) (base g n cap m c B : Nat) (xs ys : List Nat) (A : Option Addr)
    (hs : a.eval s = .slice (some ⟨g, 0, none⟩) n cap) (hx : a.eval x = .slice A m c)
    (hown : w.ownsRow base 5 1 (.slice (some ⟨g, 0, none⟩) n cap) n (bcells xs)) (hR : Rd w B A ys) (hm : ys.length = m) (hc : A = none → c = 0) (hbd : n + m ≤ 1000000) (hbase : base ≤ w.heap.size)
    (k : ∀ g' cap' w', w'.ownsRow base 5 1 (.slice (some ⟨g', 0, none⟩) (n + m) cap') (n + m) (bcells (xs ++ ys)) → w.grownBy w' (some g) → (g' = g ∨ g' = w.heap.size) → wpList Tryd.prog ops Q rest (a.put o.dst (.slice (some ⟨g', 0, none⟩) (n + m) cap')) w') :
    wpList Tryd.prog ops Q (o :: rest) a w :=
  wpList_plain hgd fun _ hK => wp_append_rd s x ho base g n cap m c B xs ys A hs hx hown hR hm hc hbd hbase fun g' cap' w' h1 h2 h3 => hK _ _ (k g' cap' w' h1 h2 h3)
theorem step_append_rd {ops : Array Oper} {o : Oper} {a : Act} {w : World} {K : Act → World → Prop} {Q : Exit → Act → World → Prop} {E : Prop} {ts : Array Value} (hw : Region.wanted o (yielded ops ts) = true) (s x : Operand)
    (ho : o.op = .call { callee := .builtin .append, args := #[s, x], argTypes := #[22, 22] }) (base g n cap m c B : Nat) (xs ys : List Nat) (A : Option Addr)
    (hs : a.eval s = .slice (some ⟨g, 0, none⟩) n cap) (hx : a.eval x = .slice A m c)
    (hown : w.ownsRow base 5 1 (.slice (some ⟨g, 0, none⟩) n cap) n (bcells xs)) (hR : Rd w B A ys) (hm : ys.length = m) (hc : A = none → c = 0) (hbd : n + m ≤ 1000000) (hbase : base ≤ w.heap.size)
    (k : ∀ g' cap' w', w'.ownsRow base 5 1 (.slice (some ⟨g', 0, none⟩) (n + m) cap') (n + m) (bcells (xs ++ ys)) → w.grownBy w' (some g) → (g' = g ∨ g' = w.heap.size) → K (a.put o.dst (.slice (some ⟨g', 0, none⟩) (n + m) cap')) w') :
    if Region.wanted o (yielded ops ts) = true then Oper.wp Tryd.prog o a w K Q else E := by
  rw [if_pos hw]
  exact wp_append_rd s x ho base g n cap m c B xs ys A hs hx hown hR hm hc hbd hbase k
theorem rd_of_own {w : World} {base g n cap B : Nat} {xs : List Nat} (hown : w.ownsRow base 5 1 (.slice (some ⟨g, 0, none⟩) n cap) n (bcells xs)) (hx : ∀ j, gt xs j < 256) (hB : w.heap.size ≤ B) : Rd w B (some ⟨g, 0, none⟩) xs := by
  have hl : xs.length = n := by have := hown.1; rw [bcells_len] at this; omega
  have hlt : g < w.heap.size := (hown.lt g rfl).2
  refine ⟨hx, fun _ => ⟨_, rfl, by show g < B; omega, fun j hj => ?_⟩⟩
  have ha : (⟨g, 0, none⟩ : Addr).add j = ⟨g, j, none⟩ := by unfold Addr.add; split <;> simp_all
  rw [ha, hown.cellAt j (by omega), bcells_at xs j hj]
theorem gt_append_lt {a b : List Nat} (ha : ∀ j, gt a j < 256) (hb : ∀ j, gt b j < 256) : ∀ j, gt (a ++ b) j < 256 := by
  intro j
  have h1 := ha j; have h2 := hb (j - a.length)
  unfold gt at *
  rw [List.getD_eq_getElem?_getD, List.getElem?_append]
  split
  · rwa [List.getD_eq_getElem?_getD] at h1
  · rwa [List.getD_eq_getElem?_getD] at h2
theorem gt_lt_of_mem {a : List Nat} (h : ∀ x ∈ a, x < 256) : ∀ j, gt a j < 256 := by
  intro j
  unfold gt
  rw [List.getD_eq_getElem?_getD]
  by_cases hj : j < a.length
  · rw [List.getElem?_eq_getElem hj]; exact h _ (List.getElem_mem _)
  · rw [List.getElem?_eq_none (by omega)]; decide
theorem rd_of_rowIs {w : World} {h n B : Nat} {bs : List Nat} (hrow : w.rowIs h 5 n (byteRow bs)) (hn : bs.length = n) (hx : ∀ j, gt bs j < 256) (hB : w.heap.size ≤ B) : Rd w B (some ⟨h, 0, none⟩) bs := by
  have hlt := hrow.lt
  refine ⟨hx, fun _ => ⟨_, rfl, by show h < B; omega, fun j hj => ?_⟩⟩
  have ha : (⟨h, 0, none⟩ : Addr).add j = ⟨h, j, none⟩ := by unfold Addr.add; split <;> simp_all
  rw [ha, hrow.cell (by omega)]; rfl
end Go.Proofs.YtkplkfokpniflaaDoor.Sha

namespace Go.Proofs.YtkplkfokpniflaaDoor.Sha
set_option linter.all false
open Go.RowKit

def endRow (n k : Nat) : Nat → Value := fun j => .int .u8 ((endAt n k j : Nat) : Int)
theorem end_byte (n k L d : Nat) (hL : L = endLen n) (hd : d + k + 1 = L) : n * 8 / 2 ^ (8 * k) % 256 = endAt n (k + 1) d := by
  unfold endAt
  rw [← hL, if_pos (by omega), show L - 1 - d = k by omega]
theorem endRow_succ {w : World} {h n k L d : Nat} (hR : w.rowIs h 5 L (endRow n k)) (hL : L = endLen n) (hd : d + k + 1 = L) {z : Int} (hz : z = ((n * 8 / 2 ^ (8 * k) % 256 : Nat) : Int)) :
    (w.setCell ⟨h, d, none⟩ (.int .u8 z)).rowIs h 5 L (endRow n (k + 1)) := by
  subst hz
  refine (hR.set d _).congr fun j hj => ?_
  by_cases e : j = d
  · subst e; rw [if_pos rfl, end_byte n k L j hL hd]; rfl
  · rw [if_neg e]
    by_cases h1 : L - k ≤ j
    · simp only [endRow, endAt, ← hL, if_pos h1, if_pos (show L - (k + 1) ≤ j by omega)]
    · simp only [endRow, endAt, ← hL, if_neg h1, if_neg (show ¬ L - (k + 1) ≤ j by omega)]
theorem endRow_start {w : World} {h n L : Nat} (hR : w.rowIs h 5 L fun _ => .int .u8 0) (hL : L = endLen n) : (w.setCell ⟨h, 0, none⟩ (.int .u8 128)).rowIs h 5 L (endRow n 0) := by
  refine (hR.set 0 _).congr fun j hj => ?_
  have h1 : ¬ L - 0 ≤ j := by omega
  by_cases e : j = 0
  · simp only [endRow, endAt, ← hL, if_neg h1, if_pos e]; rfl
  · simp only [endRow, endAt, ← hL, if_neg h1, if_neg e]; rfl
theorem endRow_all {w : World} {h n L : Nat} (hR : w.rowIs h 5 L (endRow n 8)) (hL : L = endLen n) : w.rowIs h 5 L (byteRow (endL n)) := by
  refine hR.congr fun j hj => ?_
  unfold endRow byteRow wordRow endL
  rw [gt_tab _ _ _ (by omega)]

set_option maxHeartbeats 1000000 in
set_option maxRecDepth 100000 in
theorem end_any (n : Nat) (w : World) (hn : n ≤ 1152921504606846976) :
    Calls Tryd.prog 82 #[.int .u64 n] w fun e w' => e = .returned (.slice (some ⟨w.heap.size, 0, none⟩) (endLen n) (endLen n)) ∧ w'.rowIs w.heap.size 5 (endLen n) (byteRow (endL n)) ∧ Below w.heap.size w w' ∧ w.heap.size < w'.heap.size := by
  obtain ⟨q, hq, hq'⟩ : ∃ q : Nat, q = (n + 9) % 64 ∧ q < 64 := ⟨_, rfl, by omega⟩
  obtain ⟨z, hz, hz'⟩ : ∃ z : Nat, z = (64 - q) % 64 ∧ z < 64 := ⟨_, rfl, by omega⟩
  obtain ⟨L, hL, hL9, hL72, hLz, hLz'⟩ : ∃ L : Nat, L = endLen n ∧ 9 ≤ L ∧ L ≤ 72 ∧ L ≤ 1 + z + 8 ∧ 1 + z + 8 ≤ L := ⟨endLen n, rfl, endLen_ge n, endLen_le n, by unfold endLen; omega, by unfold endLen; omega⟩
  rw [← hL]
  have e1 : ((n : Int) + 1 + 8) % 64 = (q : Int) := by omega
  have e1' : ((n : Int) + 9) % 64 = (q : Int) := by omega
  have e2 : (64 - (q : Int)) % 64 = (z : Int) := by omega
  have e3 : 1 + (z : Int) + 8 = (L : Int) := by omega
  have e4 : IntKind.u64.wrap (1 + (z : Int) + 8) = (L : Int) := by rw [IntKind.wrap_u64]; omega
  have HL := Lib.hid (fun _ : Unit => hL); clear hL hq hz hLz hLz'
  have hmk := fun W => run_make_row' (P := Tryd.prog) 22 5 (.int .u8 0) 1 Tryd.underlying22 (by kernel_rfl) rfl .u64 .u64 L (by omega) (by omega) W
  have d0 := (World.rowIs_made w (.int .u8 0) L 5).cell (i := 0) (by omega)
  have d1 := (World.rowIs_made w (.int .u8 0) L 5).frozen 0
  have y0 : (0 : Int) < (L : Int) := by omega
  go_enter Tryd.func82, Tryd.ntmps82
  go_wp2
  have HR0 := Lib.hid (endRow_start (World.rowIs_made w (.int .u8 0) L 5) (HL.out ()))
  have HB0 := Lib.hid ((Below.refl w.heap.size w).alloc (Nat.le_refl _) (.cells ((madeCells #[Value.int IntKind.u8 0] L).setIfInBounds 0 (Value.int IntKind.u8 128)) 5))
  rw [World.setCell_alloc_new] at HR0
  generalize w.alloc (.cells ((madeCells #[Value.int IntKind.u8 0] L).setIfInBounds 0 (Value.int IntKind.u8 128)) 5) = W0 at *
  clear d0 d1 y0 hmk e1 e1' e2 e3 e4
  go_loopw [23] (fun i W => ∃ k : Nat, k ≤ 8 ∧ i = .int .i64 k ∧ Hid (W.rowIs w.heap.size 5 L (endRow n k)) ∧ Hid (Below w.heap.size w W)) (fun i _ => 8 - (intOf i).toNat)
  case atStart => exact ⟨0, by omega, rfl, HR0, HB0⟩
  case round =>
    obtain ⟨k, hk, rfl, HR1, HB1⟩ := hrel
    by_cases hk8 : k < 8
    · obtain ⟨d, hd, hd', hdL⟩ : ∃ d : Nat, d + k + 1 ≤ L ∧ L ≤ d + k + 1 ∧ d < L := ⟨L - 1 - k, by omega, by omega, by omega⟩
      have x1 : (L : Int) - 1 - (k : Int) = (d : Int) := by omega
      have x2 : IntKind.i64.wrap ((L : Int) - 1 - (k : Int)) = (d : Int) := by rw [IntKind.wrap_i64]; omega
      have c0 := HR1.out.cell (i := d) hdL
      have f0 := HR1.out.frozen d
      have yd : (d : Int) < (L : Int) := by omega
      have yk : (k : Int) < 8 := by omega
      go_wp2
      go_roundw
      case rel => exact ⟨k + 1, by omega, by go_num, Lib.hid (endRow_succ HR1.out (HL.out ()) (by omega) (by simp)), Lib.hid (HB1.out.setCell (Nat.le_refl _) _)⟩
      case measure => simp [intOf]; omega
    · obtain rfl : k = 8 := by omega
      go_wp2
      go_ret
      exact ⟨rfl, endRow_all HR1.out (HL.out ()), HB1.out, HR1.out.lt⟩

/-- a word's four bytes, built -/
theorem built_rd (w : World) (x : Nat) (hx : x < 4294967296) {B : Nat} (hB : w.heap.size < B) :
    Rd (w.alloc (.cells #[.int .u8 ((x : Int) / 16777216), .int .u8 ((x : Int) / 65536 % 256), .int .u8 ((x : Int) / 256 % 256), .int .u8 ((x : Int) % 256)] 5)) B (some ⟨w.heap.size, 0, none⟩) (wbytes x) := by
  refine ⟨gt_lt_of_mem (wbytes_lt x), fun _ => ⟨_, rfl, hB, fun j hj => ?_⟩⟩
  have ha : (⟨w.heap.size, 0, none⟩ : Addr).add j = ⟨w.heap.size, j, none⟩ := by unfold Addr.add; split <;> simp_all
  rw [ha, cell_of_row _ _ j _ 5 (0, 0) (heap_alloc_last w _)]
  have hj4 : j < 4 := hj
  match j, hj4 with
  | 0, _ => rw [wbytes, gt_cons_zero]; simp; omega
  | 1, _ => rw [wbytes, show (1 : Nat) = 0 + 1 from rfl, gt_cons_succ, gt_cons_zero]; simp
  | 2, _ => rw [wbytes, show (2 : Nat) = 0 + 1 + 1 from rfl, gt_cons_succ, gt_cons_succ, gt_cons_zero]; simp
  | 3, _ => rw [wbytes, show (3 : Nat) = 0 + 1 + 1 + 1 from rfl, gt_cons_succ, gt_cons_succ, gt_cons_succ, gt_cons_zero]; simp
  | n + 4, h => omega

set_option maxHeartbeats 1000000 in
set_option maxRecDepth 100000 in
theorem told_to (g : Nat) (s : Hs) (out : List Nat) (w : World) (hS : HsAt w g s) (hO : Ok 4294967296 8 s.st) (HO : Hid (Unit → toldTo s.st 8 = out)) :
    Calls Tryd.prog 83 #[.pointer (some ⟨g, 0, none⟩)] w fun e w' => ∃ h cap, e = .returned (.slice (some ⟨h, 0, none⟩) 32 cap) ∧ w'.ownsRow w.heap.size 5 1 (.slice (some ⟨h, 0, none⟩) 32 cap) 32 (bcells out) ∧ Below w.heap.size w w' := by
  have hlt := hS.lt
  have HS := Lib.hid hS; have HOS := Lib.hid hO; clear hS hO
  obtain ⟨i, hi, hz, hsz, hby⟩ := byteInfo
  obtain ⟨W0, hmk, hown0, hgr0⟩ := run_make_own (P := Tryd.prog) w w.heap.size 22 5 i (.int .u8 0) 1 Tryd.underlying22 hi hz hsz .i64 .i64 32 (by rw [hby]; omega) (by unfold maxLen; omega) (Nat.le_refl _)
  have hmk' : (Instr.makeSlice 22 (.int .i64 0) (.int .i64 32)).run Tryd.prog w = .ok (.slice (some ⟨w.heap.size, 0, none⟩) 0 32) W0 := hmk
  have HOWN0 : Hid (W0.ownsRow w.heap.size 5 1 (.slice (some ⟨w.heap.size, 0, none⟩) 0 32) 0 (bcells [])) := Lib.hid hown0
  have HB0 : Hid (Below w.heap.size w W0) := Lib.hid ⟨hgr0.os, hgr0.tape, hgr0.output, hgr0.size, fun i hi => hgr0.block i hi (by simp)⟩
  clear hown0 hgr0 hi hz hsz hby hmk
  go_enter Tryd.func83, Tryd.ntmps83
  go_wp2
  go_loopw [3, 8] (fun v i W => ∃ (k h n cap : Nat), k ≤ 8 ∧ i = .int .i64 k ∧ n ≤ 4 * k ∧ 4 * k ≤ n ∧ v = .slice (some ⟨h, 0, none⟩) n cap ∧ Hid (W.ownsRow w.heap.size 5 1 (.slice (some ⟨h, 0, none⟩) n cap) n (bcells (toldTo s.st k))) ∧ Hid (Below w.heap.size w W)) (fun _ i _ => 8 - (intOf i).toNat)
  case atStart => exact ⟨0, w.heap.size, 0, 32, by omega, rfl, by omega, by omega, rfl, HOWN0, HB0⟩
  case round =>
    obtain ⟨k, h, n, cap, hk, rfl, hn, hn', rfl, HOWN1, HB1⟩ := hrel
    by_cases hk8 : k < 8
    · have c0 : wr.cell? ⟨g, k, none⟩ = some (.int .u32 (gt s.st k : Nat)) := by rw [HB1.out.cell (by exact hlt)]; exact HS.out.st k hk8
      have hx := HOS.out.2 k
      have hsucc : Hid (Unit → toldTo s.st (k + 1) = toldTo s.st k ++ wbytes (gt s.st k)) := Lib.hid fun _ => rfl
      generalize toldTo s.st k = xs at *
      generalize gt s.st k = x at *
      have yk : (k : Int) < 8 := by omega
      have HX := Lib.hid hx; clear hx
      have HOWN2 := Lib.hid (HOWN1.out.alloc (.cells #[.int .u8 ((x : Int) / 16777216), .int .u8 ((x : Int) / 65536 % 256), .int .u8 ((x : Int) / 256 % 256), .int .u8 ((x : Int) % 256)] 5))
      have HRD := Lib.hid (built_rd wr x HX.out (B := wr.heap.size + 1) (by omega))
      have HB2 := Lib.hid (HB1.out.alloc HB1.out.size (.cells #[.int .u8 ((x : Int) / 16777216), .int .u8 ((x : Int) / 65536 % 256), .int .u8 ((x : Int) / 256 % 256), .int .u8 ((x : Int) % 256)] 5))
      have hx := HX.out
      go_wp2_with (at_builtin; refine wpList_append_rd rfl (.tmp 13) (.tmp 25) rfl w.heap.size h n cap 4 4 (wr.heap.size + 1) xs (wbytes x) (some ⟨wr.heap.size, 0, none⟩) rfl rfl HOWN2.out HRD.out rfl (fun e => by cases e) (by omega) HB2.out.size ?_)
      intro g' cap' W2 hown hgrow hat
      have hh : w.heap.size ≤ h := (HOWN1.out.lt h rfl).1
      have HOWN3 := Lib.hid hown; have HB3 := Lib.hid (below_of_only HB2.out hgrow hh); clear hown hgrow hat
      go_wp2
      go_roundw
      case rel => exact ⟨k + 1, g', n + 4, cap', by omega, by go_num, by omega, by omega, rfl, Lib.hid (by rw [hsucc.out ()]; exact HOWN3.out), HB3⟩
      case measure => simp [intOf]; omega
    · obtain rfl : k = 8 := by omega
      obtain rfl : n = 32 := by omega
      go_wp2
      go_ret
      exact ⟨h, cap, rfl, by rw [← HO.out ()]; exact HOWN1.out, HB1.out⟩
theorem told_any (g : Nat) (s : Hs) (w : World) (hS : HsAt w g s) (hO : Ok 4294967296 8 s.st) :
    Calls Tryd.prog 83 #[.pointer (some ⟨g, 0, none⟩)] w fun e w' => ∃ h cap, e = .returned (.slice (some ⟨h, 0, none⟩) 32 cap) ∧ w'.ownsRow w.heap.size 5 1 (.slice (some ⟨h, 0, none⟩) 32 cap) 32 (bcells (told s.st)) ∧ Below w.heap.size w w' :=
  told_to g s _ w hS hO (Lib.hid fun _ => rfl)

end Go.Proofs.YtkplkfokpniflaaDoor.Sha

namespace Go.Proofs.YtkplkfokpniflaaDoor.Sha
set_option linter.all false
open Go.RowKit

theorem own_lower {w : World} {base base' e sz h n cap : Nat} {xs : List Value} (h1 : w.ownsRow base e sz (.slice (some ⟨h, 0, none⟩) n cap) n xs) (hb : base' ≤ base) : w.ownsRow base' e sz (.slice (some ⟨h, 0, none⟩) n cap) n xs := by
  refine ⟨h1.1, ?_⟩
  rcases h1.2 with h2 | ⟨g, c, cur, he, hbase, rest⟩
  · exact .inl h2
  · exact .inr ⟨g, c, cur, he, Nat.le_trans hb hbase, rest⟩
def zeroHs : Hs := ⟨tab 8 fun _ => 0, tab 64 fun _ => 0, 0⟩
def zc : Array Value := (hcells zeroHs).toArray
theorem zc_size : zc.size = 73 := by simp [zc, hcells_len]
theorem run_zero42 (w : World) : (zeroValue 109).run Tryd.prog w = .ok (.agg zc) w := by
  have h : (Tryd.prog.info? 109).map (·.zero) = some (some (.agg zc)) := by kernel_rfl
  cases hq : Tryd.prog.info? 109 with
  | none => simp [hq] at h
  | some i =>
    have hz : i.zero = some (.agg zc) := by simpa [hq] using h
    simp [zeroValue, typeInfo, hq, hz]
theorem first_size : (numsOf .u32 firstT).size = 8 := rfl
theorem first_built : Array.foldl (fun (cs : Array Value) (x : Value × Nat) => cs.setIfInBounds x.snd x.fst) zc (numsOf .u32 firstT).zipIdx 0 8 = (hcells start).toArray := by kernel_rfl

set_option maxHeartbeats 1000000 in
set_option maxRecDepth 100000 in
theorem new_any (w : World) (hT : Tables w) :
    Calls Tryd.prog 76 #[] w fun e' w' => e' = .returned (.pointer (some ⟨w.heap.size, 0, none⟩)) ∧ HsAt w' w.heap.size start ∧ Below w.heap.size w w' ∧ w'.heap.size = w.heap.size + 1 := by
  obtain ⟨tt, fr, hfi⟩ := hT.first
  have HF := Lib.hid hfi; clear hfi hT
  have hz := run_zero42 w
  have hs := first_size
  have hs2 := zc_size
  have hb := first_built
  go_enter Tryd.func76, Tryd.ntmps76
  go_wp2_with (refine wpList_load_row rfl 107 _ rfl 1 rfl tt _ fr _ HF.out Tryd.underlying107 rfl (by kernel_rfl) ?_)
  go_ret
  exact ⟨rfl, HsAt.of_heap (heap_alloc_last w _), (Below.refl _ _).alloc (Nat.le_refl _) _, by simp⟩

set_option maxHeartbeats 1000000 in
set_option maxRecDepth 100000 in
theorem hsum_any (g : Nat) (s : Hs) (w : World) (hS : HsAt w g s) (hG : Good s) (hT : Tables w) (hm : s.n ≤ 1152921504606846000) :
    Calls Tryd.prog 78 #[.pointer (some ⟨g, 0, none⟩)] w fun e w' => ∃ h cap, e = .returned (.slice (some ⟨h, 0, none⟩) 32 cap) ∧ w'.ownsRow w.heap.size 5 1 (.slice (some ⟨h, 0, none⟩) 32 cap) 32 (bcells (sumOf s)) ∧ Below w.heap.size w w' := by
  have hlt := hS.lt
  have h2 := hT.lt
  have HS := Lib.hid hS; have HG := Lib.hid hG; have HT := Lib.hid hT; clear hS hG hT
  have hi : (Tryd.prog.info? 109).map (·.size) = some (hcells s).toArray.size := by rw [List.size_toArray, hcells_len]; kernel_rfl
  have HI := Lib.hid hi; clear hi
  have HSZ := Lib.hid (show zc.size = (hcells s).toArray.size by rw [zc_size, List.size_toArray, hcells_len])
  have hz := run_zero42 w
  have HONE : Hid ((hcells s).toArray.all (·.oneCell') = true) := Lib.hid (by
    rw [Array.all_eq_true_iff_forall_mem]
    intro v hv
    rw [List.mem_toArray] at hv
    unfold hcells at hv
    obtain ⟨i, _, rfl⟩ := List.mem_map.1 hv
    unfold hsF
    split
    · rfl
    · split <;> rfl)
  have c0 := (HS.out.alloc (.cells (hcells s).toArray 109)).len
  generalize hX : sumOf s = X
  have HX := Lib.hid (fun _ : Unit => hX); clear hX
  go_enter Tryd.func78, Tryd.ntmps78
  go_wp2_with (first | (refine wpList_load_row rfl 109 (.tmp 5) rfl g rfl 109 (hcells s).toArray (0, 0) _ HS.out.heap Tryd.underlying109 rfl HI.out ?_) | (refine wpList_store_row rfl 109 (.tmp 3) (.tmp 6) rfl w.heap.size (hcells s).toArray rfl rfl 109 zc (heap_alloc_last w _) HI.out HSZ.out HONE.out ?_; rw [World.setRow_alloc_new]))
  have HS0 : Hid (HsAt (w.alloc (.cells (hcells s).toArray 109)) w.heap.size s) := Lib.hid (HsAt.of_heap (heap_alloc_last w _))
  have HB0 := Lib.hid ((Below.refl w.heap.size w).alloc (Nat.le_refl _) (.cells (hcells s).toArray 109))
  have HT0 := Lib.hid (HT.out.alloc (.cells (hcells s).toArray 109))
  clear c0
  generalize w.alloc (.cells (hcells s).toArray 109) = W0 at *
  refine (end_any s.n W0 (by omega)).mono ?_
  rintro e W1 ⟨rfl, hR1, hB1, hz1⟩
  have hW0 := HS0.out.lt
  have HS1 := Lib.hid (HS0.out.below hB1 hW0)
  have HT1 := Lib.hid (HT0.out.below hB1 HT0.out.lt)
  have HB1 := Lib.hid (HB0.out.trans (hB1.mono HB0.out.size))
  have HR1 : Hid (Rn W1 w.heap.size (some ⟨W0.heap.size, 0, none⟩) (endL s.n)) := Lib.hid (by
    refine ⟨endL_lt s.n, fun _ => ⟨_, rfl, by show W0.heap.size ≠ w.heap.size; omega, hz1, fun j hj => ?_⟩⟩
    have ha : (⟨W0.heap.size, 0, none⟩ : Addr).add j = ⟨W0.heap.size, j, none⟩ := by unfold Addr.add; split <;> simp_all
    rw [ha, hR1.cell (by rw [endL_len] at hj; exact hj)]; rfl)
  have hl72 := endLen_le s.n
  clear hR1 hB1 hz1
  go_wp2_with fail
  refine (write_any w.heap.size s _ (endL s.n) (endLen s.n) (endLen s.n) _ HS1.out HG.out HT1.out h2 HR1.out (endL_len _) (Nat.le_refl _) (by omega) (by omega)).mono ?_
  rintro e W2 ⟨rfl, hS2, hG2⟩
  have HS2 := Lib.hid hS2; have HB2 := Lib.hid (below_of_only HB1.out hG2 (Nat.le_refl _)); clear hS2 hG2
  go_wp2_with fail
  refine (told_any w.heap.size _ _ HS2.out (good_takeAll _ HG.out (endL_lt _)).st).mono ?_
  rintro e W3 ⟨h, cap, rfl, hown, hB3⟩
  have HOWN := Lib.hid hown; have HB3 := Lib.hid (HB2.out.trans (hB3.mono HB2.out.size)); clear hown hB3
  go_wp2
  go_ret
  refine ⟨h, cap, rfl, ?_, HB3.out⟩
  rw [← HX.out ()]
  exact own_lower HOWN.out HB2.out.size
end Go.Proofs.YtkplkfokpniflaaDoor.Sha

namespace Go.Proofs.YtkplkfokpniflaaDoor.Sha
set_option linter.all false
theorem sum_abc : (sum [97, 98, 99]).take 8 = [186, 120, 22, 191, 143, 1, 207, 234] := by decide +kernel
theorem sum_nil : (sum []).take 4 = [227, 176, 196, 66] := by decide +kernel
end Go.Proofs.YtkplkfokpniflaaDoor.Sha

namespace Go.Proofs.YtkplkfokpniflaaDoor.Sha
set_option linter.all false
open Go.RowKit

theorem own_cap {w : World} {base h n cap : Nat} {xs : List Value} (h1 : w.ownsRow base 5 1 (.slice (some ⟨h, 0, none⟩) n cap) n xs) : n ≤ cap ∧ cap ≤ maxLen := by
  rcases h1.2 with ⟨e, _⟩ | ⟨g, c, cur, e, _, _, h2, h3, _⟩
  · cases e
  · injection e with _ _ e3
    subst e3
    exact ⟨h2, h3⟩
theorem conv_take {w : World} {g n cap base k c : Nat} {bs : List Nat} (hown : w.ownsRow base 5 1 (.slice (some ⟨g, 0, none⟩) n cap) n (bcells bs)) (hk : k ≤ n) :
    (convert 22 9 (.slice (some ⟨g, 0, none⟩) k c)).run Tryd.prog w = .ok (.string (txt (bs.take k))) w := by
  have hl : bs.length = n := by have := hown.1; rw [bcells_len] at this; omega
  refine run_convert_bytes_arg (P := Tryd.prog) w 22 5 Tryd.underlying22 Tryd.underlying5 g 0 k c _ (by simp; omega) ?_ 9 Tryd.underlying9
  intro i hi
  rw [Nat.zero_add, hown.cellAt i (by omega), bcells_at bs i (by omega)]
  have : i < bs.length := by omega
  simp [gt, List.getD_eq_getElem?_getD, this, List.getElem?_take, hi]

/-- a sum: 32 bytes in a row of the call's own -/
def Summed (w : World) (bs : List Nat) (e : Ending) (w' : World) : Prop :=
  ∃ h cap, e = .returned (.slice (some ⟨h, 0, none⟩) 32 cap) ∧ w'.ownsRow w.heap.size 5 1 (.slice (some ⟨h, 0, none⟩) 32 cap) 32 (bcells bs) ∧ Below w.heap.size w w'

set_option maxHeartbeats 1000000 in
theorem sum_any (A : Option Addr) (bs : List Nat) (n c : Nat) (w : World) (hT : Tables w) (hR : Rd w w.heap.size A bs) (hn : bs.length = n) (hnc : n ≤ c) (hc : c ≤ 9223372036854775807) (hm : n ≤ 1000000) :
    Calls Tryd.prog 69 #[.slice A n c] w (Summed w (sum bs)) := by
  have h2 := hT.lt
  have HT := Lib.hid hT; have HR := Lib.hid hR; have HN := Lib.hid (fun _ : Unit => hn); clear hT hR hn
  generalize hX : sum bs = X
  have HX := Lib.hid (fun _ : Unit => hX); clear hX
  go_enter Tryd.func69, Tryd.ntmps69
  go_wp2_with fail
  refine (new_any _ HT.out).mono ?_
  rintro e' w1 ⟨rfl, hS, hB, hz⟩
  have HS := Lib.hid hS; have HB := Lib.hid hB; clear hS hB
  have HT1 := Lib.hid (HT.out.below HB.out h2)
  have HR1 := Lib.hid ((HR.out.below HB.out).apart (Nat.le_refl _) HB.out.size)
  go_wp2_with fail
  refine (write_any w.heap.size start A bs n c _ HS.out good_start HT1.out h2 HR1.out (HN.out ()) hnc hc (by show 0 + n ≤ _; omega)).mono ?_
  rintro e' w2 ⟨rfl, hS2, hG2⟩
  have HS2 := Lib.hid hS2; have HB2 := Lib.hid (below_of_only HB.out hG2 (Nat.le_refl _)); clear hS2 hG2
  have HT2 := Lib.hid (HT.out.below HB2.out h2)
  go_wp2_with fail
  refine (hsum_any w.heap.size _ _ HS2.out (good_takeAll bs good_start HR.out.1) HT2.out (by rw [takeAll_n, HN.out ()]; show 0 + n ≤ _; omega)).mono ?_
  rintro e' w3 ⟨h, cap, rfl, hown, hB3⟩
  have HOWN := Lib.hid hown; have HB3 := Lib.hid (HB2.out.trans (hB3.mono HB2.out.size)); clear hown hB3
  go_wp2
  go_ret
  refine ⟨h, cap, rfl, ?_, HB3.out⟩
  rw [← HX.out ()]
  exact own_lower HOWN.out HB2.out.size

theorem wpAnyH_more {P : Program} {md : Region.Mode} {ops : Array Oper} {Q : Exit → Act → World → Prop} {S S' : World → Prop} (h : ∀ w, S' w → S w) : ∀ (fuel : Nat) (listed : Array Bool) (a : Act) (w : World), wpAnyH P md ops Q S' fuel listed a w → wpAnyH P md ops Q S fuel listed a w
  | 0, _, _, _, h' => h'
  | fuel + 1, _, _, _, h' => ⟨h'.1, fun i hi => wpOp_mono (fun a' w' k => ⟨h _ k.1, wpAnyH_more h fuel _ a' w' k.2⟩) (h'.2 i hi)⟩
theorem rn_of_own {w : World} {base g n cap q : Nat} {xs : List Nat} (hown : w.ownsRow base 5 1 (.slice (some ⟨g, 0, none⟩) n cap) n (bcells xs)) (hx : ∀ j, gt xs j < 256) (hne : g ≠ q) : Rn w q (some ⟨g, 0, none⟩) xs := by
  have hl : xs.length = n := by have := hown.1; rw [bcells_len] at this; omega
  refine ⟨hx, fun _ => ⟨_, rfl, hne, (hown.lt g rfl).2, fun j hj => ?_⟩⟩
  have ha : (⟨g, 0, none⟩ : Addr).add j = ⟨g, j, none⟩ := by unfold Addr.add; split <;> simp_all
  rw [ha, hown.cellAt j (by omega), bcells_at xs j hj]
theorem own_below {w w' : World} {base B g n cap : Nat} {xs : List Value} (h : w.ownsRow base 5 1 (.slice (some ⟨g, 0, none⟩) n cap) n xs) (hb : Below B w w') (hB : w.heap.size ≤ B) : w'.ownsRow base 5 1 (.slice (some ⟨g, 0, none⟩) n cap) n xs :=
  h.kept ⟨hb.os, hb.tape, hb.output, hb.size, fun i hi _ => hb.block i (by omega)⟩ (.inr (by simp [Value.ownBlock] : Value.ownBlock _ ≠ none))

theorem slice_one (ad : Addr) (n c k c2 : Nat) (h : k < n) (hnc : n ≤ c) (hc2 : k + c2 = c) (w : World) :
    (Instr.slice 22 (.slice (some ad) n c) (some (.int .i64 (k : Int))) (some (.int .i64 ((k : Int) + 1))) none).run Tryd.prog w = .ok (.slice (some (ad.add k)) 1 c2) w := by
  have h1 : Tryd.prog.underlying 22 = some (.slice (Tryd.prog.elem 22)) := by kernel_rfl
  have h3 : Tryd.prog.elem 22 = 5 := by kernel_rfl
  have h4 : (Tryd.prog.info? 5).map (·.size) = some 1 := by kernel_rfl
  cases hq : Tryd.prog.info? 5 with
  | none => simp [hq] at h4
  | some i =>
    have hs1 : i.size = 1 := by simpa [hq] using h4
    rw [run_slice_lh (a := some ad) (len := n) (cap := c) (w := w) (t := 22) (ht := h1) .i64 .i64 (k : Int) ((k : Int) + 1) (by omega) (by omega) (by omega), h3]
    have e1 : ((k : Int) + 1).toNat - k = 1 := by omega
    have e2 : c - k = c2 := by omega
    have e3 : ¬ c = k := by omega
    simp [sizeOf, typeInfo, hq, hs1, sliced, e1, e2, e3]
theorem slice_head (ad : Addr) (n c k : Nat) (h : k < n) (hnc : n ≤ c) (w : World) :
    (Instr.slice 22 (.slice (some ad) n c) none (some (.int .i64 ((k : Int) + 1))) none).run Tryd.prog w = .ok (.slice (some ad) (k + 1) c) w := by
  have h1 : Tryd.prog.underlying 22 = some (.slice (Tryd.prog.elem 22)) := by kernel_rfl
  have h3 : Tryd.prog.elem 22 = 5 := by kernel_rfl
  have h4 : (Tryd.prog.info? 5).map (·.size) = some 1 := by kernel_rfl
  cases hq : Tryd.prog.info? 5 with
  | none => simp [hq] at h4
  | some i =>
    have hs1 : i.size = 1 := by simpa [hq] using h4
    rw [run_slice_h (a := some ad) (len := n) (cap := c) (w := w) (t := 22) (ht := h1) .i64 ((k : Int) + 1) (by omega) (by omega), h3]
    have e1 : ((k : Int) + 1).toNat = k + 1 := by omega
    have e4 : ad.add 0 = ad := rfl
    simp [sizeOf, typeInfo, hq, hs1, sliced, e1, e4]
theorem Rd.mid {w : World} {B : Nat} {ad : Addr} {bs : List Nat} (h : Rd w B (some ad) bs) (k : Nat) (hk : k < bs.length) : Rd w B (some (ad.add k)) [gt bs k] := by
  obtain ⟨ad', h1, h2, h3⟩ := h.2 (by omega)
  injection h1 with h1
  subst h1
  refine ⟨gt_lt_of_mem (by intro x hx; simp only [List.mem_cons, List.not_mem_nil, or_false] at hx; rw [hx]; exact h.1 k), fun _ => ⟨_, rfl, by rw [add_block]; exact h2, fun j hj => ?_⟩⟩
  have hj0 : j = 0 := by simp at hj; exact hj
  subst hj0
  rw [add_add, Nat.add_zero, h3 k hk, gt_cons_zero]
theorem Rd.upto {w : World} {B : Nat} {A : Option Addr} {bs : List Nat} (h : Rd w B A bs) (k : Nat) : Rd w B A (bs.take k) := by
  refine ⟨take_lt h.1 k, fun hn => ?_⟩
  rw [List.length_take] at hn
  obtain ⟨ad, h1, h2, h3⟩ := h.2 (by omega)
  refine ⟨ad, h1, h2, fun j hj => ?_⟩
  rw [List.length_take] at hj
  rw [h3 j (by omega), gt_take _ _ _ (by omega)]
/-- bytes of one's own, whatever they are by now -/
def Bytes (w : World) (g n : Nat) : Prop := ∃ cur : Array Value, w.heap[g]? = some (.cells cur 5 (0, 0)) ∧ ∀ i, i < n → ∃ z : Int, cur[i]? = some (.int .u8 z)
theorem Bytes.cell {w : World} {g n : Nat} (h : Bytes w g n) (i : Nat) (hi : i < n) : ∃ z : Int, w.cell? ⟨g, i, none⟩ = some (.int .u8 z) := by
  obtain ⟨cur, h1, h2⟩ := h
  obtain ⟨z, hz⟩ := h2 i hi
  exact ⟨z, by rw [cell_of_row w g i cur 5 (0, 0) h1, hz]⟩
theorem Bytes.frozen {w : World} {g n : Nat} (h : Bytes w g n) (i : Nat) : w.frozen? ⟨g, i, none⟩ = false := by
  obtain ⟨cur, h1, _⟩ := h
  simp [World.frozen?, h1]
theorem Bytes.set {w : World} {g n : Nat} (h : Bytes w g n) (i : Nat) (z : Int) : Bytes (w.setCell ⟨g, i, none⟩ (.int .u8 z)) g n := by
  obtain ⟨cur, h1, h2⟩ := h
  refine ⟨cur.setIfInBounds i (.int .u8 z), ?_, fun j hj => ?_⟩
  · rw [setCell_eq_setRow w g i cur 5 (0, 0) (.int .u8 z) h1]
    exact setRow_heap w g _ _ 5 _ h1
  · obtain ⟨y, hy⟩ := h2 j hj
    rw [Array.getElem?_setIfInBounds]
    by_cases e : i = j
    · subst e
      have : i < cur.size := by
        rcases Nat.lt_or_ge i cur.size with h | h
        · exact h
        · rw [Array.getElem?_eq_none h] at hy; cases hy
      exact ⟨z, by simp [this]⟩
    · exact ⟨y, by rw [if_neg e]; exact hy⟩
theorem Bytes.drew {w : World} {g n : Nat} (h : Bytes w g n) : Bytes w.drew g n := h
theorem bytes_of_own {w : World} {base g n cap : Nat} {xs : List Nat} (h : w.ownsRow base 5 1 (.slice (some ⟨g, 0, none⟩) n cap) n (bcells xs)) : Bytes w g n := by
  have hl : xs.length = n := by have := h.1; rw [bcells_len] at this; omega
  rcases h.2 with ⟨e, _⟩ | ⟨g', c, cur, e, _, hc, _, _, hs, ht⟩
  · cases e
  · injection e with e1 _ _
    have e2 : (⟨g, 0, none⟩ : Addr) = ⟨g', 0, none⟩ := Option.some.inj e1
    injection e2 with e3
    subst e3
    refine ⟨cur, hc, fun i hi => ⟨(gt xs i : Nat), ?_⟩⟩
    have h5 := bcells_at xs i (by omega)
    rw [← ht, Nat.mul_one, List.getElem?_take_of_lt hi, Array.getElem?_toList] at h5
    exact h5

/-- append onto a row of one's own, nil let in, of bytes that came in, nil let in -/
theorem wpList_append_gen {ops : Array Oper} {rest : List Oper} {o : Oper} {a : Act} {w : World} {Q : Exit → Act → World → Prop} (hgd : o.guard = none) (s x : Operand)
    (ho : o.op = .call { callee := .builtin .append, args := #[s, x], argTypes := #[22, 22] }) (base n m c B : Nat) (v : Value) (xs ys : List Nat) (A : Option Addr)
    (hs : a.eval s = v) (hx : a.eval x = .slice A m c)
    (hown : w.ownsRow base 5 1 v n (bcells xs)) (hR : Rd w B A ys) (hm : ys.length = m) (hc : A = none → c = 0) (hbd : n + m ≤ 1000000) (hbase : base ≤ w.heap.size)
    (k : ∀ v' w', w'.ownsRow base 5 1 v' (n + m) (bcells (xs ++ ys)) → w.grownBy w' v.ownBlock → wpList Tryd.prog ops Q rest (a.put o.dst v') w') :
    wpList Tryd.prog ops Q (o :: rest) a w := by
  obtain ⟨i, hi, hz, hsz, hby⟩ := byteInfo
  have key : ∃ v' w', (Builtin.append_ #[22, 22] o.type #[v, .slice A m c]).run Tryd.prog w = .ok v' w' ∧ w'.ownsRow base 5 1 v' (n + m) (bcells (xs ++ ys)) ∧ w.grownBy w' v.ownBlock := by
    cases A with
    | none =>
      have h0 : m = 0 := by
        rcases Nat.eq_zero_or_pos m with h | h
        · exact h
        · obtain ⟨ad, e, _⟩ := hR.2 (by omega)
          cases e
      have hy : ys = [] := List.eq_nil_of_length_eq_zero (by omega)
      have hc0 := hc rfl
      subst h0 hy hc0
      exact ⟨v, w, run_append_owned_none (P := Tryd.prog) (w := w) base 22 o.type 5 i 1 Tryd.underlying22 hi _ n (bcells xs) hown, by simpa using hown, World.grownBy.refl _ _⟩
    | some ad =>
      obtain ⟨v', w', hrun, h1, h2, _, _⟩ := run_append_own_at (P := Tryd.prog) w base 22 o.type 5 i (.int .u8 0) 1 1 Tryd.underlying22 hi hz hsz hby rfl (by omega) _ n (bcells xs) hown ad m c (bcells ys) (by rw [bcells_len]; omega)
        (news_of_rd hR) (bcells_one ys) (by unfold maxLen; omega) (by omega) hbase
      rw [← bcells_append] at h1
      exact ⟨v', w', hrun, h1, h2⟩
  obtain ⟨v', w', hrun, h1, h2⟩ := key
  refine wpList_plain hgd fun K hK => ?_
  unfold Oper.wp execOp
  simp only [ho, resolve, invoke, builtin, Sem.run_bind, Sem.run_pure, Result.andThen_ok, List.map_toArray, List.map_cons, List.map_nil, hs, hx, hrun]
  exact hK _ _ (k v' w' h1 h2)
/-- what owns a row is a slice, and is read as one -/
theorem own_slice {w : World} {base n : Nat} {v : Value} {xs : List Nat} (h : w.ownsRow base 5 1 v n (bcells xs)) (hx : ∀ j, gt xs j < 256) :
    ∃ (A : Option Addr) (c : Nat), v = .slice A n c ∧ (A = none → c = 0) ∧ n ≤ c ∧ c ≤ 9223372036854775807 ∧ Rd w w.heap.size A xs ∧ xs.length = n ∧ (∀ g, Value.ownBlock v = some g → base ≤ g ∧ g < w.heap.size) := by
  have hl : xs.length = n := by have := h.1; rw [bcells_len] at this; omega
  have h' := h
  rcases h.2 with ⟨e, h0⟩ | ⟨g, c, cur, e, hb, hc, h1, h2, _⟩
  · subst e h0
    have hx0 : xs = [] := List.eq_nil_of_length_eq_zero hl
    subst hx0
    exact ⟨none, 0, rfl, fun _ => rfl, by omega, by omega, Rd.nil _ _ _, rfl, fun g e => by cases e⟩
  · subst e
    refine ⟨some ⟨g, 0, none⟩, c, rfl, fun e => (by cases e), h1, h2, rd_of_own h' hx (Nat.le_refl _), hl, fun g' e => ?_⟩
    have e' : g = g' := Option.some.inj e
    subst e'
    exact h'.lt g rfl
theorem own_gen {w w' : World} {base n : Nat} {v : Value} {xs : List Value} (h : w.ownsRow base 5 1 v n xs) (hb : Below w.heap.size w w') : w'.ownsRow base 5 1 v n xs := by
  refine h.kept (row := none) ⟨hb.os, hb.tape, hb.output, hb.size, fun i hi _ => hb.block i hi⟩ ?_
  cases hq : v.ownBlock with
  | none => exact .inl rfl
  | some g => exact .inr (by simp)
theorem own_apart {w w' : World} {base n g : Nat} {v : Value} {xs : List Value} (h : w.ownsRow base 5 1 v n xs) (hg : w.grownBy w' (some g)) (hne : ∀ g', v.ownBlock = some g' → g' ≠ g) : w'.ownsRow base 5 1 v n xs := by
  refine h.kept hg ?_
  cases hq : v.ownBlock with
  | none => exact .inl rfl
  | some g' => exact .inr (by intro e; exact hne g' hq (Option.some.inj e))

end Go.Proofs.YtkplkfokpniflaaDoor.Sha
