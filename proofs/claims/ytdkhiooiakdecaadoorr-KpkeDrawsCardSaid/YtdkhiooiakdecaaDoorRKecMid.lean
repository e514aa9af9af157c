/- Walks: Read, atOnce, the four functions. Walks: atOnce and the four functions. The sponge's two fixed answers, reckoned by the kernel. Walks: head, great; bytes as strings. Rows of bytes of the call's own: append, as strings; a guarded append in a region that draws its order. append of bytes that came in, nil let in, onto a row of the call's own. -/
import Derived.Test.YtdkhiooiakdecaaDoorRKecWalkG
import Derived.Test.YtdkhiooiakdecaaDoorRKecSponge
import Derived.Laws.BytesArg
import Derived.Deep.AppendLies
import Derived.Deep.RegionLaw
import Derived.Deep.DrawnRows
import Derived.Laws.OwnMore
import Derived.Laws.AppendOwnNone
namespace Go.Proofs.YtdkhiooiakdecaaDoorR.Kec
set_option linter.all false
open Go.RowKit

def byteRow (bs : List Nat) : Nat → Value := fun j => .int .u8 (gt bs j : Nat)
def gaveRow (r : Nat) (s : Nat × List Nat) (k : Nat) : Nat → Value := fun j => if j < k then .int .u8 (outAt r s j : Nat) else .int .u8 0

set_option maxHeartbeats 1000000 in
set_option maxRecDepth 100000 in
theorem read_bad (g : Nat) (n : Int) (w : World) (h : n < 0 ∨ 65536 < n) :
    Calls Tryd.prog 40 #[.pointer (some ⟨g, 0, none⟩), .int .i64 n] w fun e' w' => e' = .returned (.slice none 0 0) ∧ w = w' := by
  by_cases h1 : n < 0
  · go_enter Tryd.func40, Tryd.ntmps40
    go_wp2
    go_ret
    exact ⟨rfl, rfl⟩
  · have h2 : 65536 < n := by omega
    go_enter Tryd.func40, Tryd.ntmps40
    go_wp2
    go_ret
    exact ⟨rfl, rfl⟩

theorem byteAt_same (b t n o i : Nat) (f : Nat → Value) (ws : List Nat) (w : World) (hi : i < 200) (hS : St w b t n f o ws) :
    Calls Tryd.prog 51 #[.pointer (some ⟨b, o, none⟩), .int .i64 i] w fun e w' => e = .returned (.int .u8 (byteAt ws i : Nat)) ∧ w' = w :=
  (byteAt_any b t n o i f ws w hi hS).mono fun _ _ ⟨h, h'⟩ => ⟨h, h'.symm⟩
/-- what a Read leaves: the sponge, and n bytes in a new block -/
def Gave (w : World) (g r e : Nat) (s : Nat × List Nat) (n : Nat) (e' : Ending) (w' : World) : Prop :=
  ∃ h, e' = .returned (.slice (some ⟨h, 0, none⟩) n n) ∧ w.heap.size ≤ h ∧ w'.rowIs h 5 n (byteRow (outs r s n)) ∧ Sp w' g r e true (after r s n) ∧ w.grownBy w' (some g)

set_option maxHeartbeats 1000000 in
set_option maxRecDepth 100000 in
theorem read_gives (g r e : Nat) (s : Nat × List Nat) (n : Nat) (w : World) (hS : Sp w g r e true s) (hG : Good r s) (hr : r ≤ 192) (hT : Tables w) (hb : 3 ≤ g) (hn : n ≤ 65536) :
    Calls Tryd.prog 40 #[.pointer (some ⟨g, 0, none⟩), .int .i64 n] w (Gave w g r e s n) := by
  have hlt : g < w.heap.size := hS.2.lt
  have c0 := hS.gives
  have h1 : ¬ ((n : Int) < 0) := by omega
  have h2 : ¬ (65536 < (n : Int)) := by omega
  have HS := Lib.hid hS; have HG := Lib.hid hG; have HT := Lib.hid hT; clear hS hG hT
  have hmk := fun W => run_make_row' (P := Tryd.prog) 22 5 (.int .u8 0) 1 Tryd.underlying22 (by kernel_rfl) rfl .i64 .i64 n (by omega) (by omega) W
  go_enter Tryd.func40, Tryd.ntmps40
  go_wp2
  go_loopw [24] (fun i W => ∃ k : Nat, k ≤ n ∧ i = .int .i64 k ∧ Hid (Sp W g r e true (after r s k)) ∧ Hid (W.rowIs w.heap.size 5 n (gaveRow r s k)) ∧ Hid (w.grownBy W (some g))) (fun i _ => n - (intOf i).toNat)
  case atStart =>
    refine ⟨0, by omega, rfl, Lib.hid (HS.out.alloc _), Lib.hid ((World.rowIs_made w (.int .u8 0) n 5).congr fun i _ => ?_), Lib.hid (World.grownBy_alloc _ _ _)⟩
    unfold gaveRow; rw [if_neg (by omega)]
  case round =>
    obtain ⟨k, hk, rfl, HS1, HR1, HG1⟩ := hrel
    by_cases hkn : k < n
    · have hgood := good_after HG.out k
      have hst : after r s (k + 1) = stepAt r (after r s k) := rfl
      have hout : outAt r s k = byteAt (after r s k).2 (after r s k).1 := rfl
      generalize after r s k = s1 at *
      obtain ⟨a, ws⟩ := s1
      have ha : a < r := hgood.1
      have HGD := Lib.hid hgood; have HST := Lib.hid hst; have HOUT := Lib.hid hout; clear hgood hst hout
      have c1 := HS1.out.at_
      dsimp only at c1
      have d0 := HR1.out.cell hkn
      have d1 := HR1.out.frozen k
      have HT1 := Lib.hid (HT.out.grown HG1.out hb)
      go_wp2
      refine wp_region_still_tail 10 (by kernel_rfl) (by kernel_rfl) ?_
      simp only [List.take_succ_cons, List.take_zero, List.drop_succ_cons, List.drop_zero]
      repeat still_step
      still_call (byteAt_same g 64 29 2 a (spF r e a true) ws _ (by omega) HS1.out.drew)
      refine wpStill_nil ?_
      change wpList _ _ _ _ _ wr.drew
      go_wp2_with fail
      have HS2 : Hid (Sp (wr.setCell ⟨w.heap.size, k, none⟩ (.int .u8 (byteAt ws a : Nat))).drew g r e true (a, ws)) := Lib.hid (HS1.out.far (by show g ≠ w.heap.size; omega) _).drew
      have HG2 := Lib.hid (only_drew (only_set HG1.out (p := ⟨w.heap.size, k, none⟩) (.inr (Nat.le_refl _)) (.int .u8 (byteAt ws a : Nat))))
      have HR2 : Hid ((wr.setCell ⟨w.heap.size, k, none⟩ (.int .u8 (byteAt ws a : Nat))).drew.rowIs w.heap.size 5 n (gaveRow r s (k + 1))) := Lib.hid (((HR1.out.set k (.int .u8 (byteAt ws a : Nat))).drew).congr fun i _ => by
        unfold gaveRow
        by_cases e : i = k
        · subst e; rw [if_pos rfl, if_pos (by omega), HOUT.out]
        · rw [if_neg e]
          by_cases h : i < k
          · rw [if_pos h, if_pos (by omega)]
          · rw [if_neg h, if_neg (by omega)])
      have HT2 := Lib.hid (HT.out.grown HG2.out hb)
      refine (goOn_any g r e true (a, ws) _ HS2.out HGD.out hr HT2.out hb).mono ?_
      rintro e' w2 ⟨rfl, hS3, hG3⟩
      have HS3 := Lib.hid hS3; have HG3 := Lib.hid (only_then HG2.out hG3 (.inl rfl))
      have HR3 := Lib.hid (HR2.out.of_block (hG3.block w.heap.size HR2.out.lt (by intro e; injection e; omega)))
      clear hS3 hG3
      go_wp2
      go_roundw
      case rel => exact ⟨k + 1, by omega, by go_num, Lib.hid (by rw [HST.out]; exact HS3.out), HR3, HG3⟩
      case measure => simp [intOf]; omega
    · obtain rfl : k = n := by omega
      go_wp2
      go_ret
      refine ⟨w.heap.size, rfl, Nat.le_refl _, HR1.out.congr fun i hi => ?_, HS1.out, HG1.out⟩
      unfold gaveRow byteRow
      rw [if_pos hi, gt_outs _ _ _ _ hi]

set_option maxHeartbeats 1000000 in
set_option maxRecDepth 100000 in
theorem read_turns (g r e : Nat) (s : Nat × List Nat) (n : Nat) (w : World) (hS : Sp w g r e false s) (hG : Good r s) (hr0 : 0 < r) (hr : r ≤ 192) (he : e < 256) (hT : Tables w) (hb : 3 ≤ g) (hn : n ≤ 65536) :
    Calls Tryd.prog 40 #[.pointer (some ⟨g, 0, none⟩), .int .i64 n] w (Gave w g r e (turned r e s) n) := by
  have hlt : g < w.heap.size := hS.2.lt
  have c0 := hS.gives
  have h1 : ¬ ((n : Int) < 0) := by omega
  have h2 : ¬ (65536 < (n : Int)) := by omega
  have HS := Lib.hid hS; have HG0 := Lib.hid hG; have HT0 := Lib.hid hT; clear hS hG hT
  have hmk := fun W => run_make_row' (P := Tryd.prog) 22 5 (.int .u8 0) 1 Tryd.underlying22 (by kernel_rfl) rfl .i64 .i64 n (by omega) (by omega) W
  go_enter Tryd.func40, Tryd.ntmps40
  go_wp2_with fail
  refine (turn_any g r e s _ HS.out HG0.out hr0 hr he HT0.out hb).mono ?_
  rintro e' w0 ⟨rfl, hSt, hGt⟩
  have HSt := Lib.hid hSt; have HGt := Lib.hid hGt
  have HG := Lib.hid (good_turned e HG0.out hr0 hr)
  have HT := Lib.hid (HT0.out.grown hGt hb)
  have hsz := hGt.size
  clear hSt hGt c0
  generalize turned r e s = s0 at *
  go_wp2
  go_loopw [24] (fun i W => ∃ k : Nat, k ≤ n ∧ i = .int .i64 k ∧ Hid (Sp W g r e true (after r s0 k)) ∧ Hid (W.rowIs w0.heap.size 5 n (gaveRow r s0 k)) ∧ Hid (w0.grownBy W (some g))) (fun i _ => n - (intOf i).toNat)
  case atStart =>
    refine ⟨0, by omega, rfl, Lib.hid (HSt.out.alloc _), Lib.hid ((World.rowIs_made w0 (.int .u8 0) n 5).congr fun i _ => ?_), Lib.hid (World.grownBy_alloc _ _ _)⟩
    unfold gaveRow; rw [if_neg (by omega)]
  case round =>
    obtain ⟨k, hk, rfl, HS1, HR1, HG1⟩ := hrel
    by_cases hkn : k < n
    · have hgood := good_after HG.out k
      have hst : after r s0 (k + 1) = stepAt r (after r s0 k) := rfl
      have hout : outAt r s0 k = byteAt (after r s0 k).2 (after r s0 k).1 := rfl
      generalize after r s0 k = s1 at *
      obtain ⟨a, ws⟩ := s1
      have ha : a < r := hgood.1
      have HGD := Lib.hid hgood; have HST := Lib.hid hst; have HOUT := Lib.hid hout; clear hgood hst hout
      have c1 := HS1.out.at_
      dsimp only at c1
      have d0 := HR1.out.cell hkn
      have d1 := HR1.out.frozen k
      go_wp2
      refine wp_region_still_tail 10 (by kernel_rfl) (by kernel_rfl) ?_
      simp only [List.take_succ_cons, List.take_zero, List.drop_succ_cons, List.drop_zero]
      repeat still_step
      still_call (byteAt_same g 64 29 2 a (spF r e a true) ws _ (by omega) HS1.out.drew)
      refine wpStill_nil ?_
      change wpList _ _ _ _ _ wr.drew
      go_wp2_with fail
      have HS2 : Hid (Sp (wr.setCell ⟨w0.heap.size, k, none⟩ (.int .u8 (byteAt ws a : Nat))).drew g r e true (a, ws)) := Lib.hid (HS1.out.far (by show g ≠ w0.heap.size; omega) _).drew
      have HG2 := Lib.hid (only_drew (only_set HG1.out (p := ⟨w0.heap.size, k, none⟩) (.inr (Nat.le_refl _)) (.int .u8 (byteAt ws a : Nat))))
      have HR2 : Hid ((wr.setCell ⟨w0.heap.size, k, none⟩ (.int .u8 (byteAt ws a : Nat))).drew.rowIs w0.heap.size 5 n (gaveRow r s0 (k + 1))) := Lib.hid (((HR1.out.set k (.int .u8 (byteAt ws a : Nat))).drew).congr fun i _ => by
        unfold gaveRow
        by_cases e : i = k
        · subst e; rw [if_pos rfl, if_pos (by omega), HOUT.out]
        · rw [if_neg e]
          by_cases h : i < k
          · rw [if_pos h, if_pos (by omega)]
          · rw [if_neg h, if_neg (by omega)])
      have HT2 := Lib.hid (HT.out.grown HG2.out hb)
      refine (goOn_any g r e true (a, ws) _ HS2.out HGD.out hr HT2.out hb).mono ?_
      rintro e' w2 ⟨rfl, hS3, hG3⟩
      have HS3 := Lib.hid hS3; have HG3 := Lib.hid (only_then HG2.out hG3 (.inl rfl))
      have HR3 := Lib.hid (HR2.out.of_block (hG3.block w0.heap.size HR2.out.lt (by intro e; injection e; omega)))
      clear hS3 hG3
      go_wp2
      go_roundw
      case rel => exact ⟨k + 1, by omega, by go_num, Lib.hid (by rw [HST.out]; exact HS3.out), HR3, HG3⟩
      case measure => simp [intOf]; omega
    · obtain rfl : k = n := by omega
      go_wp2
      go_ret
      refine ⟨w0.heap.size, rfl, hsz, HR1.out.congr fun i hi => ?_, HS1.out, only_then HGt.out HG1.out (.inl rfl)⟩
      unfold gaveRow byteRow
      rw [if_pos hi, gt_outs _ _ _ _ hi]

end Go.Proofs.YtdkhiooiakdecaaDoorR.Kec

namespace Go.Proofs.YtdkhiooiakdecaaDoorR.Kec
set_option linter.all false
open Go.RowKit

theorem sponge_len (r e : Nat) (bs : List Nat) (n : Nat) : (sponge r e bs n).length = n := outs_len _ _ _
/-- bytes in a new block, and nothing that was there has turned -/
def Out (w : World) (bs : List Nat) (e' : Ending) (w' : World) : Prop :=
  ∃ h, e' = .returned (.slice (some ⟨h, 0, none⟩) bs.length bs.length) ∧ w.heap.size ≤ h ∧ w'.rowIs h 5 bs.length (byteRow bs) ∧ Below w.heap.size w w'

theorem below_of_only {w w1 w2 : World} {g : Nat} (h : Below w.heap.size w w1) (k : w1.grownBy w2 (some g)) (hg : w.heap.size ≤ g) : Below w.heap.size w w2 :=
  ⟨k.os.trans h.os, k.tape.trans h.tape, k.output.trans h.output, Nat.le_trans h.size k.size, fun i hi => (k.block i (Nat.lt_of_lt_of_le hi h.size) (by intro e; injection e; omega)).trans (h.block i hi)⟩

end Go.Proofs.YtdkhiooiakdecaaDoorR.Kec

namespace Go.Proofs.YtdkhiooiakdecaaDoorR.Kec
set_option linter.all false
theorem shake_nil : sponge 168 31 [] 8 = [127, 156, 43, 164, 232, 143, 130, 125] := by decide +kernel
theorem sum_nil : (sponge 136 6 [] 32).take 8 = [167, 255, 198, 248, 191, 30, 215, 102] := by decide +kernel
end Go.Proofs.YtdkhiooiakdecaaDoorR.Kec

namespace Go.Proofs.YtdkhiooiakdecaaDoorR.Kec
set_option linter.all false
open Go.RowKit

/-- bytes as a string -/
def txt (bs : List Nat) : ByteArray := strOfNums (bs.map fun x => ((x : Nat) : Int))
theorem conv_row {w : World} {h n k c : Nat} {bs : List Nat} (hrow : w.rowIs h 5 n (byteRow bs)) (hk : k ≤ n) (hn : bs.length = n) :
    (convert 22 9 (.slice (some ⟨h, 0, none⟩) k c)).run Tryd.prog w = .ok (.string (txt (bs.take k))) w := by
  refine run_convert_bytes_arg (P := Tryd.prog) w 22 5 Tryd.underlying22 Tryd.underlying5 h 0 k c _ (by simp; omega) ?_ 9 Tryd.underlying9
  intro i hi
  rw [Nat.zero_add, hrow.cell (by omega)]
  simp [byteRow, gt, List.getD_eq_getElem?_getD, List.getElem?_take, hi]
  have : i < bs.length := by omega
  simp [this]
theorem conv_all {w : World} {h n c : Nat} {bs : List Nat} (hrow : w.rowIs h 5 n (byteRow bs)) (hn : bs.length = n) :
    (convert 22 9 (.slice (some ⟨h, 0, none⟩) n c)).run Tryd.prog w = .ok (.string (txt bs)) w := by
  have := conv_row (c := c) hrow (Nat.le_refl n) hn
  rwa [List.take_of_length_le (by omega)] at this

end Go.Proofs.YtdkhiooiakdecaaDoorR.Kec

namespace Go.Proofs.YtdkhiooiakdecaaDoorR.Kec
set_option linter.all false
open Go.RowKit

def bcells (bs : List Nat) : List Value := bs.map fun x => Value.int .u8 ((x : Nat) : Int)
theorem bcells_len (bs : List Nat) : (bcells bs).length = bs.length := by simp [bcells]
theorem bcells_one (bs : List Nat) : ∀ u ∈ bcells bs, u.oneCell' = true := by
  intro u hu
  obtain ⟨x, _, rfl⟩ := List.mem_map.1 hu
  rfl
theorem bcells_at (bs : List Nat) (i : Nat) (h : i < bs.length) : (bcells bs)[i]? = some (.int .u8 ((gt bs i : Nat) : Int)) := by
  simp [bcells, gt, List.getD_eq_getElem?_getD, h]
theorem bcells_append (a b : List Nat) : bcells (a ++ b) = bcells a ++ bcells b := by simp [bcells]
theorem own_of_row {w : World} {h n base : Nat} {bs : List Nat} (hrow : w.rowIs h 5 n (byteRow bs)) (hn : bs.length = n) (hm : n ≤ maxLen) (hb : base ≤ h) :
    w.ownsRow base 5 1 (.slice (some ⟨h, 0, none⟩) n n) n (bcells bs) := by
  obtain ⟨c, hc, hs, hi⟩ := hrow
  refine ⟨by rw [bcells_len]; omega, .inr ⟨h, n, c, rfl, hb, hc, Nat.le_refl _, hm, by omega, ?_⟩⟩
  apply List.ext_getElem?
  intro i
  by_cases hin : i < n
  · rw [bcells_at bs i (by omega), List.getElem?_take_of_lt (by omega), Array.getElem?_toList, hi i hin]; rfl
  · rw [List.getElem?_eq_none (by simp; omega), List.getElem?_eq_none (by rw [bcells_len]; omega)]
theorem news_of_row {w : World} {h n : Nat} {bs : List Nat} (hrow : w.rowIs h 5 n (byteRow bs)) (hn : bs.length = n) :
    ∀ j u, (bcells bs)[j]? = some u → w.cell? ((⟨h, 0, none⟩ : Addr).add j) = some u := by
  intro j u hu
  have hj : j < n := by
    rcases Nat.lt_or_ge j n with h | h
    · exact h
    · rw [List.getElem?_eq_none (by rw [bcells_len]; omega)] at hu; cases hu
  rw [bcells_at bs j (by omega)] at hu
  have ha : (⟨h, 0, none⟩ : Addr).add j = ⟨h, j, none⟩ := by unfold Addr.add; split <;> simp_all
  rw [ha, hrow.cell hj, ← hu]; rfl
theorem conv_own {w : World} {g n cap base : Nat} {bs : List Nat} (hown : w.ownsRow base 5 1 (.slice (some ⟨g, 0, none⟩) n cap) n (bcells bs)) :
    (convert 22 9 (.slice (some ⟨g, 0, none⟩) n cap)).run Tryd.prog w = .ok (.string (txt bs)) w := by
  have hl : bs.length = n := by have := hown.1; rw [bcells_len] at this; omega
  refine run_convert_bytes_arg (P := Tryd.prog) w 22 5 Tryd.underlying22 Tryd.underlying5 g 0 n cap _ (by simp; omega) ?_ 9 Tryd.underlying9
  intro i hi
  rw [Nat.zero_add, hown.cellAt i (by omega), bcells_at bs i (by omega)]
  have : i < bs.length := by omega
  simp [gt, List.getD_eq_getElem?_getD, this]
/-- a region that is shown not to panic; the post laid open, so that its limb at a panic is seen at once -/
theorem region_calm {P : Program} {id : Nat} {ops : Array Oper} {b : Bool} {Q : Exit → Act → World → Prop} {a : Act} {w : World}
    (h : (Code.region id ops b).wp P (fun e a w => match e with | .panic _ => False | e => Q e a w) a w) : (Code.region id ops b).wp P Q a w :=
  Code.wp_mono (fun e a w h => by cases e <;> first | exact h | exact (h : False).elim) h
theorem byteInfo : ∃ i : TypeInfo, Tryd.prog.info? 5 = some i ∧ i.zero = some (.int .u8 0) ∧ i.size = 1 ∧ i.bytes = 1 := by
  have h : (Tryd.prog.info? 5).map (fun i => (i.zero, i.size, i.bytes)) = some (some (.int .u8 0), 1, 1) := by kernel_rfl
  obtain ⟨i, hi, e⟩ := Option.map_eq_some_iff.1 h
  simp only [Prod.mk.injEq] at e
  exact ⟨i, hi, e.1, e.2.1, e.2.2⟩

/-- append of bytes onto a row of the call's own, at an operation -/
theorem wp_append_bytes {o : Oper} {a : Act} {w : World} {K : Act → World → Prop} {Q : Exit → Act → World → Prop} (s x : Operand)
    (ho : o.op = .call { callee := .builtin .append, args := #[s, x], argTypes := #[22, 22] })
    (base h n h' m c : Nat) (xs ys : List Nat) (hs : a.eval s = .slice (some ⟨h, 0, none⟩) n n) (hx : a.eval x = .slice (some ⟨h', 0, none⟩) m c)
    (hrx : w.rowIs h 5 n (byteRow xs)) (hnx : xs.length = n) (hry : w.rowIs h' 5 m (byteRow ys)) (hny : ys.length = m) (hm : 0 < m) (hbd : n + m ≤ 1000000) (hb : base ≤ h) (hbw : base ≤ w.heap.size)
    (k : ∀ g cap w', w'.ownsRow base 5 1 (.slice (some ⟨g, 0, none⟩) (n + m) cap) (n + m) (bcells (xs ++ ys)) → w.grownBy w' (some h) → (h = g ∨ g = w.heap.size) → g < w'.heap.size → K (a.put o.dst (.slice (some ⟨g, 0, none⟩) (n + m) cap)) w') :
    Oper.wp Tryd.prog o a w K Q := by
  obtain ⟨i, hi, hz, hsz, hby⟩ := byteInfo
  have hml : n + m ≤ maxLen := by unfold maxLen; omega
  refine wp_append_lies w s x 22 ho base 5 i (.int .u8 0) 1 1 Tryd.underlying22 hi hz hsz hby rfl (by omega) _ n (bcells xs) hs (own_of_row hrx hnx (by omega) hb) ⟨h', 0, none⟩ m c (bcells ys) hx (by rw [bcells_len]; omega)
    (news_of_row hry hny) (bcells_one ys) hm hml (by omega) hbw _ rfl ?_
  intro g cap w' h1 h2 h3 h4
  rw [← bcells_append] at h1
  have h5 : h = g ∨ g = w.heap.size := by
    rcases h3 with h3 | h3
    · exact .inl (Option.some.inj h3)
    · exact .inr h3
  exact k g cap w' h1 h2 h5 h4

/-- the same at a step of a region that draws its order, whatever guards it -/
theorem step_append_bytes {ops : Array Oper} {o : Oper} {a : Act} {w : World} {K : Act → World → Prop} {Q : Exit → Act → World → Prop} {E : Prop} {ts : Array Value} (hw : Region.wanted o (yielded ops ts) = true) (s x : Operand)
    (ho : o.op = .call { callee := .builtin .append, args := #[s, x], argTypes := #[22, 22] })
    (base h n h' m c : Nat) (xs ys : List Nat) (hs : a.eval s = .slice (some ⟨h, 0, none⟩) n n) (hx : a.eval x = .slice (some ⟨h', 0, none⟩) m c)
    (hrx : w.rowIs h 5 n (byteRow xs)) (hnx : xs.length = n) (hry : w.rowIs h' 5 m (byteRow ys)) (hny : ys.length = m) (hm : 0 < m) (hbd : n + m ≤ 1000000) (hb : base ≤ h) (hbw : base ≤ w.heap.size)
    (k : ∀ g cap w', w'.ownsRow base 5 1 (.slice (some ⟨g, 0, none⟩) (n + m) cap) (n + m) (bcells (xs ++ ys)) → w.grownBy w' (some h) → (h = g ∨ g = w.heap.size) → g < w'.heap.size → K (a.put o.dst (.slice (some ⟨g, 0, none⟩) (n + m) cap)) w') :
    if Region.wanted o (yielded ops ts) = true then Oper.wp Tryd.prog o a w K Q else E := by
  rw [if_pos hw]
  exact wp_append_bytes s x ho base h n h' m c xs ys hs hx hrx hnx hry hny hm hbd hb hbw k

end Go.Proofs.YtdkhiooiakdecaaDoorR.Kec

namespace Go.Proofs.YtdkhiooiakdecaaDoorR.Kec
set_option linter.all false
open Go.RowKit

theorem news_of_rd {w : World} {B : Nat} {ad : Addr} {ys : List Nat} (h : Rd w B (some ad) ys) : ∀ j u, (bcells ys)[j]? = some u → w.cell? (ad.add j) = some u := by
  intro j u hu
  have hj : j < ys.length := by
    rcases Nat.lt_or_ge j ys.length with h | h
    · exact h
    · rw [List.getElem?_eq_none (by rw [bcells_len]; omega)] at hu; cases hu
  obtain ⟨ad', e, _, hc⟩ := h.2 (by omega)
  injection e with e
  subst e
  rw [bcells_at ys j hj] at hu
  rw [hc j hj, ← hu]

theorem run_append_rd {w : World} (base g n cap m c B : Nat) (ty : TypeId) (xs ys : List Nat) (A : Option Addr) (hown : w.ownsRow base 5 1 (.slice (some ⟨g, 0, none⟩) n cap) n (bcells xs))
    (hR : Rd w B A ys) (hm : ys.length = m) (hc : A = none → c = 0) (hbd : n + m ≤ 1000000) (hbase : base ≤ w.heap.size) :
    ∃ g' cap' w', (Builtin.append_ #[22, 22] ty #[.slice (some ⟨g, 0, none⟩) n cap, .slice A m c]).run Tryd.prog w = .ok (.slice (some ⟨g', 0, none⟩) (n + m) cap') w' ∧
      w'.ownsRow base 5 1 (.slice (some ⟨g', 0, none⟩) (n + m) cap') (n + m) (bcells (xs ++ ys)) ∧ w.grownBy w' (some g) ∧ (g' = g ∨ g' = w.heap.size) := by
  obtain ⟨i, hi, hz, hsz, hby⟩ := byteInfo
  cases A with
  | none =>
    have h0 : m = 0 := by
      rcases Nat.eq_zero_or_pos m with h | h
      · exact h
      · obtain ⟨ad, e, _⟩ := hR.2 (by omega)
        cases e
    have hy : ys = [] := List.eq_nil_of_length_eq_zero (by omega)
    have hc0 := hc rfl
    subst h0 hy hc0
    refine ⟨g, cap, w, run_append_owned_none (P := Tryd.prog) (w := w) base 22 ty 5 i 1 Tryd.underlying22 hi _ n (bcells xs) hown, by simpa using hown, World.grownBy.refl _ _, .inl rfl⟩
  | some ad =>
    have hml : n + m ≤ maxLen := by unfold maxLen; omega
    obtain ⟨v', w', hrun, h1, h2, h3, h4⟩ := run_append_own_at (P := Tryd.prog) w base 22 ty 5 i (.int .u8 0) 1 1 Tryd.underlying22 hi hz hsz hby rfl (by omega) _ n (bcells xs) hown ad m c (bcells ys) (by rw [bcells_len]; omega)
      (news_of_rd hR) (bcells_one ys) hml (by omega) hbase
    rw [← bcells_append] at h1
    have hne : v' ≠ .slice none 0 0 := fun e => by have := (h3.1 e).1; cases this
    rcases h1.2 with ⟨e, _⟩ | ⟨g', cap', cur, e, _⟩
    · exact absurd e hne
    · subst e
      refine ⟨g', cap', w', hrun, h1, h2, ?_⟩
      rcases h4 with h4 | h4
      · exact .inl (Option.some.inj h4)
      · exact .inr (Option.some.inj h4)

theorem wp_append_rd {o : Oper} {a : Act} {w : World} {K : Act → World → Prop} {Q : Exit → Act → World → Prop} (s x : Operand)
    (ho : o.op = .call { callee := .builtin .append, args := #[s, x], argTypes := #[22, 22] }) (base g n cap m c B : Nat) (xs ys : List Nat) (A : Option Addr)
    (hs : a.eval s = .slice (some ⟨g, 0, none⟩) n cap) (hx : a.eval x = .slice A m c)
    (hown : w.ownsRow base 5 1 (.slice (some ⟨g, 0, none⟩) n cap) n (bcells xs)) (hR : Rd w B A ys) (hm : ys.length = m) (hc : A = none → c = 0) (hbd : n + m ≤ 1000000) (hbase : base ≤ w.heap.size)
    (k : ∀ g' cap' w', w'.ownsRow base 5 1 (.slice (some ⟨g', 0, none⟩) (n + m) cap') (n + m) (bcells (xs ++ ys)) → w.grownBy w' (some g) → (g' = g ∨ g' = w.heap.size) → K (a.put o.dst (.slice (some ⟨g', 0, none⟩) (n + m) cap')) w') :
    Oper.wp Tryd.prog o a w K Q := by
  obtain ⟨g', cap', w', hrun, h1, h2, h3⟩ := run_append_rd base g n cap m c B o.type xs ys A hown hR hm hc hbd hbase
  unfold Oper.wp execOp
  simp only [ho, resolve, invoke, builtin, Sem.run_bind, Sem.run_pure, Result.andThen_ok, List.map_toArray, List.map_cons, List.map_nil, hs, hx, hrun]
  exact k g' cap' w' h1 h2 h3
theorem wpList_append_rd {ops : Array Oper} {rest : List Oper} {o : Oper} {a : Act} {w : World} {Q : Exit → Act → World → Prop} (hgd : o.guard = none) (s x : Operand)
    (ho : o.op = .call { callee := .builtin .append, args := #[s, x], argTypes := #[22, 22] }) (base g n cap m c B : Nat) (xs ys : List Nat) (A : Option Addr)
    (hs : a.eval s = .slice (some ⟨g, 0, none⟩) n cap) (hx : a.eval x = .slice A m c)
    (hown : w.ownsRow base 5 1 (.slice (some ⟨g, 0, none⟩) n cap) n (bcells xs)) (hR : Rd w B A ys) (hm : ys.length = m) (hc : A = none → c = 0) (hbd : n + m ≤ 1000000) (hbase : base ≤ w.heap.size)
    (k : ∀ g' cap' w', w'.ownsRow base 5 1 (.slice (some ⟨g', 0, none⟩) (n + m) cap') (n + m) (bcells (xs ++ ys)) → w.grownBy w' (some g) → (g' = g ∨ g' = w.heap.size) → wpList Tryd.prog ops Q rest (a.put o.dst (.slice (some ⟨g', 0, none⟩) (n + m) cap')) w') :
    wpList Tryd.prog ops Q (o :: rest) a w :=
  wpList_plain hgd fun _ hK => wp_append_rd s x ho base g n cap m c B xs ys A hs hx hown hR hm hc hbd hbase fun g' cap' w' h1 h2 h3 => hK _ _ (k g' cap' w' h1 h2 h3)
/-- the same at a step of a region that draws its order -/
theorem step_append_rd {ops : Array Oper} {o : Oper} {a : Act} {w : World} {K : Act → World → Prop} {Q : Exit → Act → World → Prop} {E : Prop} {ts : Array Value} (hw : Region.wanted o (yielded ops ts) = true) (s x : Operand)
    (ho : o.op = .call { callee := .builtin .append, args := #[s, x], argTypes := #[22, 22] }) (base g n cap m c B : Nat) (xs ys : List Nat) (A : Option Addr)
    (hs : a.eval s = .slice (some ⟨g, 0, none⟩) n cap) (hx : a.eval x = .slice A m c)
    (hown : w.ownsRow base 5 1 (.slice (some ⟨g, 0, none⟩) n cap) n (bcells xs)) (hR : Rd w B A ys) (hm : ys.length = m) (hc : A = none → c = 0) (hbd : n + m ≤ 1000000) (hbase : base ≤ w.heap.size)
    (k : ∀ g' cap' w', w'.ownsRow base 5 1 (.slice (some ⟨g', 0, none⟩) (n + m) cap') (n + m) (bcells (xs ++ ys)) → w.grownBy w' (some g) → (g' = g ∨ g' = w.heap.size) → K (a.put o.dst (.slice (some ⟨g', 0, none⟩) (n + m) cap')) w') :
    if Region.wanted o (yielded ops ts) = true then Oper.wp Tryd.prog o a w K Q else E := by
  rw [if_pos hw]
  exact wp_append_rd s x ho base g n cap m c B xs ys A hs hx hown hR hm hc hbd hbase k

/-- a row of one's own, read as a slice that is handed in -/
theorem rd_of_own {w : World} {base g n cap B : Nat} {xs : List Nat} (hown : w.ownsRow base 5 1 (.slice (some ⟨g, 0, none⟩) n cap) n (bcells xs)) (hx : ∀ j, gt xs j < 256) (hB : w.heap.size ≤ B) : Rd w B (some ⟨g, 0, none⟩) xs := by
  have hl : xs.length = n := by have := hown.1; rw [bcells_len] at this; omega
  have hlt : g < w.heap.size := (hown.lt g rfl).2
  refine ⟨hx, fun _ => ⟨_, rfl, by show g < B; omega, fun j hj => ?_⟩⟩
  have ha : (⟨g, 0, none⟩ : Addr).add j = ⟨g, j, none⟩ := by unfold Addr.add; split <;> simp_all
  rw [ha, hown.cellAt j (by omega), bcells_at xs j hj]
theorem gt_append_lt {a b : List Nat} (ha : ∀ j, gt a j < 256) (hb : ∀ j, gt b j < 256) : ∀ j, gt (a ++ b) j < 256 := by
  intro j
  have h1 := ha j; have h2 := hb (j - a.length)
  unfold gt at *
  rw [List.getD_eq_getElem?_getD, List.getElem?_append]
  split
  · rwa [List.getD_eq_getElem?_getD] at h1
  · rwa [List.getD_eq_getElem?_getD] at h2
theorem gt_lt_of_mem {a : List Nat} (h : ∀ x ∈ a, x < 256) : ∀ j, gt a j < 256 := by
  intro j
  unfold gt
  rw [List.getD_eq_getElem?_getD]
  by_cases hj : j < a.length
  · rw [List.getElem?_eq_getElem hj]; exact h _ (List.getElem_mem _)
  · rw [List.getElem?_eq_none (by omega)]; decide
end Go.Proofs.YtdkhiooiakdecaaDoorR.Kec
