/- Walks of the document's own: change. -/
import Derived.Test.YtdkhiooiakdecaaDoorRKecRefB
import Derived.Deep.RegionHeld3
import Derived.IntWalk
namespace Go.Proofs.YtdkhiooiakdecaaDoorR.Kec
set_option linter.all false
open Go.RowKit

theorem rcol_bits {us : List Nat} (h : Ok us) (x : Nat) :
    bits .xor .u64 (bits .xor .u64 (bits .xor .u64 (bits .xor .u64 ((gt us (x * 5) : Nat) : Int) ((gt us (x * 5 + 1) : Nat) : Int)) ((gt us (x * 5 + 2) : Nat) : Int)) ((gt us (x * 5 + 3) : Nat) : Int)) ((gt us (x * 5 + 4) : Nat) : Int) = ((rcol us x : Nat) : Int) := by
  rw [u64_xor_nat _ _ (h.2 _) (h.2 _), u64_xor_nat _ _ (xor_lt (h.2 _) (h.2 _)) (h.2 _), u64_xor_nat _ _ (xor_lt (xor_lt (h.2 _) (h.2 _)) (h.2 _)) (h.2 _), u64_xor_nat _ _ (xor_lt (xor_lt (xor_lt (h.2 _) (h.2 _)) (h.2 _)) (h.2 _)) (h.2 _)]
  rfl
theorem rdcol_bits {us : List Nat} (h : Ok us) (x : Nat) : bits .xor .u64 ((rcol us ((x + 4) % 5) : Nat) : Int) ((rotl (rcol us ((x + 1) % 5)) 1 : Nat) : Int) = ((rdcol us x : Nat) : Int) := by
  rw [u64_xor_nat _ _ (rcol_lt h _) (rotl_lt _ _ (rcol_lt h _))]; rfl
theorem rturned_one (x : Nat) (w : World) (hx : x < 18446744073709551616) :
    Calls Tryd.prog 67 #[.int .u64 x, .int .i64 1] w fun e w' => e = .returned (.int .u64 (rotl x 1 : Nat)) ∧ ∃ n, w' = w.drewN n := rturned_any x 1 w hx (by omega)
theorem rjw_bits {b : List Nat} (h : Ok b) (i x y z : Nat) (hx : i = x) (hy : (i / 5 + 1) % 5 * 5 + i % 5 = y) (hz : (i / 5 + 2) % 5 * 5 + i % 5 = z) :
    bits .xor .u64 ((gt b x : Nat) : Int) (bits .and .u64 (bits .xor .u64 (if IntKind.u64.signed = true then -1 else IntKind.u64.max) ((gt b y : Nat) : Int)) ((gt b z : Nat) : Int)) = ((rjw b i : Nat) : Int) := by
  have e : (if IntKind.u64.signed = true then -1 else IntKind.u64.max) = (18446744073709551615 : Int) := by decide
  rw [e, u64_not _ (h.2 _), u64_and_nat _ _ (notw_lt _) (h.2 _), u64_xor_nat _ _ (h.2 _) (and_lt (h.2 _))]
  unfold rjw
  rw [hy, hz, hx]
def rcolRow (us : List Nat) (k : Nat) : Nat → Value := fun x => if x < k then .int .u64 (rcol us x : Nat) else .int .u64 0
theorem rcolRow_succ {w : World} {g : Nat} {us : List Nat} {k : Nat} (h : w.rowIs g 71 5 (rcolRow us k)) : (w.setCell ⟨g, k, none⟩ (.int .u64 (rcol us k : Nat))).rowIs g 71 5 (rcolRow us (k + 1)) := by
  refine (h.set k _).congr fun i _ => ?_
  unfold rcolRow
  by_cases e : i = k
  · subst e; simp
  · by_cases h : i < k
    · simp [e, h, show i < k + 1 by omega]
    · simp [e, h, show ¬ i < k + 1 by omega]
/-- what the document's change has about it: its words, its result's place, its tables -/
structure RC (w W : World) (tB lB : Nat) (cur : List Nat) : Prop where
  words : W.rowIs w.heap.size 72 25 (wordRow cur)
  res : W.rowIs (w.heap.size + 1) 72 25 (wordRow zeros)
  turns : W.rowIs tB 80 25 (nums .i64 rturns)
  consts : W.rowIs lB 76 24 (nums .u64 roundsT)
  below : Below w.heap.size w W
  t2 : w.heap.size + 2 ≤ tB
  l2 : w.heap.size + 2 ≤ lB
section
variable {w W W' : World} {tB lB : Nat} {cur : List Nat}
theorem RC.drew (h : RC w W tB lB cur) : RC w W.drew tB lB cur := ⟨h.words, h.res, h.turns, h.consts, h.below.drew, h.t2, h.l2⟩
theorem RC.drewN (h : RC w W tB lB cur) (n : Nat) : RC w (W.drewN n) tB lB cur := ⟨h.words, h.res, h.turns, h.consts, ⟨h.below.os, h.below.tape, h.below.output, h.below.size, h.below.block⟩, h.t2, h.l2⟩
theorem RC.alloc (h : RC w W tB lB cur) (o : Obj) : RC w (W.alloc o) tB lB cur := ⟨h.words.alloc o, h.res.alloc o, h.turns.alloc o, h.consts.alloc o, h.below.alloc h.below.size o, h.t2, h.l2⟩
theorem RC.set (h : RC w W tB lB cur) {g i : Nat} (h1 : w.heap.size + 2 ≤ g) (h2 : g ≠ tB) (h3 : g ≠ lB) (v : Value) : RC w (W.setCell ⟨g, i, none⟩ v) tB lB cur :=
  ⟨h.words.setOther (by show w.heap.size ≠ g; omega) v, h.res.setOther (by show w.heap.size + 1 ≠ g; omega) v, h.turns.setOther (fun e => h2 e.symm) v, h.consts.setOther (fun e => h3 e.symm) v, h.below.setCell (by show w.heap.size ≤ g; omega) v, h.t2, h.l2⟩
theorem RC.word (h : RC w W tB lB cur) (hl : cur.length = 25) (i v : Nat) (hi : i < 25) : RC w (W.setCell ⟨w.heap.size, i, none⟩ (.int .u64 (v : Nat))) tB lB (cur.set i v) :=
  ⟨(h.words.set i _).congr fun j _ => by
      unfold wordRow
      rw [gt_set _ _ _ _ (by omega)]
      split <;> rfl,
    h.res.setOther (by show w.heap.size + 1 ≠ w.heap.size; omega) _, h.turns.setOther (by have := h.t2; show tB ≠ w.heap.size; omega) _, h.consts.setOther (by have := h.l2; show lB ≠ w.heap.size; omega) _, h.below.setCell (Nat.le_refl _) _, h.t2, h.l2⟩
end

theorem rb_succ {W : World} {bB : Nat} {cur : List Nat} {x y : Nat} (hx : x < 5) (hy : y < 5) (hO : Ok cur) (h : W.rowIs bB 72 25 (wordRow (rbTo cur (5 * x + y)))) :
    (W.setCell ⟨bB, y * 5 + (2 * x + 3 * y) % 5, none⟩ (.int .u64 (rotl (mix (gt cur (x * 5 + y)) (rdcol cur x)) (gt rturns (x * 5 + y)) : Nat))).rowIs bB 72 25 (wordRow (rbTo cur (5 * x + (y + 1)))) := by
  refine (h.set _ _).congr fun j _ => ?_
  have e1 : rplace (5 * x + y) = y * 5 + (2 * x + 3 * y) % 5 := by unfold rplace; rw [show (5 * x + y) % 5 = y by omega, show (5 * x + y) / 5 = x by omega]
  have e2 : rbAt cur (5 * x + y) = rotl (mix (gt cur (x * 5 + y)) (rdcol cur x)) (gt rturns (x * 5 + y)) := by
    unfold rbAt mix; rw [show (5 * x + y) / 5 = x by omega, show 5 * x + y = x * 5 + y by omega]
  unfold wordRow
  rw [show rbTo cur (5 * x + (y + 1)) = (rbTo cur (5 * x + y)).set (rplace (5 * x + y)) (rbAt cur (5 * x + y)) from rfl, e1, e2, gt_set _ _ _ _ (by rw [(ok_rbTo hO _ (by omega)).1]; omega)]
  split <;> rfl
theorem RC.join {w W : World} {tB lB : Nat} {cur b : List Nat} {x y : Nat} (h : RC w W tB lB (rjoinTo cur b (5 * x + y))) (hx : x < 5) (hy : y < 5) :
    RC w (W.setCell ⟨w.heap.size, x * 5 + y, none⟩ (.int .u64 (rjw b (x * 5 + y) : Nat))) tB lB (rjoinTo cur b (5 * x + (y + 1))) := by
  have := h.word (tab_len _) (x * 5 + y) (rjw b (x * 5 + y)) (by omega)
  rw [show 5 * x + y = x * 5 + y by omega, rjoinTo_succ _ _ _ (by omega)] at this
  rw [show 5 * x + (y + 1) = x * 5 + y + 1 by omega]
  exact this
def words0 (n : Nat) : Array Value := (List.replicate n (Value.int .u64 0)).toArray
theorem zrow5 (cur : List Nat) (i : Nat) (hi : i < 5) : (words0 5)[i]? = some (rcolRow cur 0 i) := by
  unfold rcolRow
  rw [if_neg (by omega)]
  match i, hi with
  | 0, _ | 1, _ | 2, _ | 3, _ | 4, _ => rfl

set_option maxHeartbeats 8000000 in
set_option maxRecDepth 100000 in
theorem rchange_any (us : List Nat) (w : World) (hO : Ok us) :
    Calls Tryd.prog 61 #[.agg (words us)] w fun e w' => e = .returned (.agg (words (rchangeTo us 24))) ∧ Below w.heap.size w w' := by
  have HO := Lib.hid hO; clear hO
  have HWU := Lib.hid (show (words us).size = 25 by rw [words_size]; exact HO.out.1)
  go_enter Tryd.func61, Tryd.ntmps61
  go_wp2_with fail
  refine (rturns_any _).mono ?_
  rintro e' w1 ⟨rfl, hB1⟩
  have HR0 := Lib.hid (rowIs_words (heap_alloc_last w (.cells (words us) 72)) HO.out.1)
  have HZ0 := Lib.hid (rowIs_words (heap_alloc_last (w.alloc (.cells (words us) 72)) (.cells (words zeros) 72)) ok_zeros.1)
  have e1 : (w.alloc (.cells (words us) 72)).heap.size = w.heap.size + 1 := by simp
  have e2 : ((w.alloc (.cells (words us) 72)).alloc (.cells (words zeros) 72)).heap.size = w.heap.size + 2 := by simp
  rw [e1] at HZ0
  have hB1' : Below (w.heap.size + 2) ((w.alloc (.cells (words us) 72)).alloc (.cells (words zeros) 72)) w1 := e2 ▸ hB1
  have HW1 : Hid (w1.rowIs w.heap.size 72 25 (wordRow us)) := Lib.hid ((HR0.out.alloc (.cells (words zeros) 72)).of_block (hB1'.block _ (by omega)))
  have HZ1 : Hid (w1.rowIs (w.heap.size + 1) 72 25 (wordRow zeros)) := Lib.hid (HZ0.out.of_block (hB1'.block _ (by omega)))
  have HB1 : Hid (Below w.heap.size w w1) := Lib.hid ((((Below.refl _ _).alloc (Nat.le_refl _) _).alloc (by simp) _).trans (hB1'.mono (by omega)))
  have hs1 : w.heap.size + 2 ≤ w1.heap.size := by have := hB1'.size; omega
  clear hB1 hB1' e1 e2
  generalize hm : rturns = m at *
  have hl : m.length = 25 := by rw [← hm]; exact rturns_len
  have hi : (Tryd.prog.info? 80).map (·.size) = some (numsOf .i64 m).size := by rw [numsOf_size, hl]; kernel_rfl
  have hzm : (numsOf .i64 zeros).size = (numsOf .i64 m).size := by rw [numsOf_size, numsOf_size, ok_zeros.1, hl]
  have HZM := Lib.hid hzm; have HI := Lib.hid hi; have HM := Lib.hid hm; have HLM := Lib.hid hl; clear hl hi hzm hm
  go_wp2_with (refine wpList_store_row rfl 80 (.tmp 3) (.tmp 14) rfl w1.heap.size (numsOf .i64 m) rfl rfl 80 (numsOf .i64 zeros) (heap_alloc_last w1 _) HI.out HZM.out (numsOf_one _ _) ?_)
  rw [World.setRow_alloc_new]
  have HT1 : Hid ((w1.alloc (.cells (numsOf .i64 m) 80)).rowIs w1.heap.size 80 25 (nums .i64 rturns)) := Lib.hid (by rw [HM.out]; exact rowIs_nums (heap_alloc_last w1 _) HLM.out)
  refine (rconsts_any _).mono ?_
  rintro e' w2 ⟨rfl, hB2⟩
  have hs2 : w1.heap.size + 1 ≤ w2.heap.size := by have := hB2.size; simpa using this
  have HW2 := Lib.hid ((HW1.out.alloc (.cells (numsOf .i64 m) 80)).of_block (hB2.block _ (by simp; omega)))
  have HZ2 := Lib.hid ((HZ1.out.alloc (.cells (numsOf .i64 m) 80)).of_block (hB2.block _ (by simp; omega)))
  have HT2 := Lib.hid (HT1.out.of_block (hB2.block _ (by simp)))
  have HB2 : Hid (Below w.heap.size w w2) := Lib.hid ((HB1.out.alloc (by omega) _).trans (hB2.mono (by simp; omega)))
  clear hB2
  generalize hq : roundsT = q at *
  have hlq : q.length = 24 := by rw [← hq]; decide
  have hi2 : (Tryd.prog.info? 76).map (·.size) = some (numsOf .u64 q).size := by rw [numsOf_size, hlq]; kernel_rfl
  have hzm2 : (numsOf .u64 zeros24).size = (numsOf .u64 q).size := by rw [numsOf_size, numsOf_size, hlq]; decide
  have HZM2 := Lib.hid hzm2; have HI2 := Lib.hid hi2; have HQ := Lib.hid hq; have HLQ := Lib.hid hlq; clear hlq hi2 hzm2 hq
  go_wp2_with (refine wpList_store_row rfl 76 (.tmp 4) (.tmp 15) rfl w2.heap.size (numsOf .u64 q) rfl rfl 76 (numsOf .u64 zeros24) (heap_alloc_last w2 _) HI2.out HZM2.out (numsOf_one _ _) ?_)
  rw [World.setRow_alloc_new]
  have HC2 : Hid ((w2.alloc (.cells (numsOf .u64 q) 76)).rowIs w2.heap.size 76 24 (nums .u64 roundsT)) := Lib.hid (by rw [HQ.out]; exact rowIs_nums (heap_alloc_last w2 _) HLQ.out)
  have HRC : Hid (RC w (w2.alloc (.cells (numsOf .u64 q) 76)) w1.heap.size w2.heap.size us) := Lib.hid ⟨HW2.out.alloc _, HZ2.out.alloc _, HT2.out.alloc _, HC2.out, HB2.out.alloc (by omega) _, hs1, by omega⟩
  generalize w1.heap.size = tB at *
  have hs2' : tB < w2.heap.size := by omega
  clear hs2 HT1 HT2 HC2 HW1 HZ1 HW2 HZ2 HB1 HB2 HR0 HZ0
  generalize w2.heap.size = lB at *
  go_loopw [5] (fun i W => ∃ k : Nat, k ≤ 24 ∧ i = .int .i64 k ∧ Hid (RC w W tB lB (rchangeTo us k))) (fun i _ => 24 - (intOf i).toNat)
  case atStart => exact ⟨0, by omega, rfl, HRC⟩
  case round =>
    obtain ⟨k, hk, rfl, HRC1⟩ := hrel
    by_cases hlt : k < 24
    · have hoc := ok_rchangeTo HO.out k hk
      have hnx : rchangeTo us (k + 1) = rround (rchangeTo us k) (gt roundsT k) := rfl
      generalize rchangeTo us k = cur at *
      have HOC := Lib.hid hoc; have HNX := Lib.hid hnx; clear hoc hnx
      have ht1 : tB < wr.heap.size := HRC1.out.turns.lt
      have hl1 : lB < wr.heap.size := HRC1.out.consts.lt
      have hN1 : w.heap.size + 2 ≤ wr.heap.size := by have := HRC1.out.t2; omega
      have hdk : decide ((k : Int) < 24) = true := decide_eq_true (by omega)
      go_wp2
      have HCRow : Hid ((wr.alloc (.cells (words0 5) 71)).rowIs wr.heap.size 71 5 (rcolRow cur 0)) := Lib.hid (World.rowIs_alloc wr _ 71 (rcolRow cur 0) (fun i hi => zrow5 cur i hi))
      have HRC1' : Hid (RC w (wr.alloc (.cells (words0 5) 71)) tB lB cur) := Lib.hid (HRC1.out.alloc _)
      change Code.wp _ _ _ _ (wr.alloc (.cells (words0 5) 71))
      generalize wr.alloc (.cells (words0 5) 71) = wA at *
      generalize wr.heap.size = cB at *
      clear HRC1
      go_loopw [7] (fun i W => ∃ x : Nat, x ≤ 5 ∧ i = .int .i64 x ∧ Hid (RC w W tB lB cur) ∧ Hid (W.rowIs cB 71 5 (rcolRow cur x))) (fun i _ => 5 - (intOf i).toNat)
      case atStart => exact ⟨0, by omega, rfl, HRC1', HCRow⟩
      case round =>
        obtain ⟨x, hx, rfl, HRC2, HR2⟩ := hrel
        by_cases hx5 : x < 5
        · have c0 := HRC2.out.words.cell (i := x * 5) (by omega)
          have c1 := HRC2.out.words.cell (i := x * 5 + 1) (by omega)
          have c2 := HRC2.out.words.cell (i := x * 5 + 2) (by omega)
          have c3 := HRC2.out.words.cell (i := x * 5 + 3) (by omega)
          have c4 := HRC2.out.words.cell (i := x * 5 + 4) (by omega)
          unfold wordRow at c0 c1 c2 c3 c4
          have d0 := HR2.out.cell (i := x) hx5
          have d1 := HR2.out.frozen x
          have hb := rcol_bits HOC.out x
          go_wp2
          go_region
          go_wp2
          go_roundw
          case rel => exact ⟨x + 1, by omega, by go_num, Lib.hid (HRC2.out.set hN1 (by omega) (by omega) _).drew, Lib.hid (rcolRow_succ HR2.out).drew⟩
          case measure => simp [intOf]; omega
        · obtain rfl : x = 5 := by omega
          have hcB : cB < wr.heap.size := HR2.out.lt
          go_wp2
          have HBRow : Hid ((wr.alloc (.cells (words zeros) 72)).rowIs wr.heap.size 72 25 (wordRow (rbTo cur (5 * 0)))) := Lib.hid (rowIs_words (heap_alloc_last wr _) ok_zeros.1)
          have HRC3' : Hid (RC w (wr.alloc (.cells (words zeros) 72)) tB lB cur) := Lib.hid (HRC2.out.alloc _)
          have HR3' : Hid ((wr.alloc (.cells (words zeros) 72)).rowIs cB 71 5 (rcolRow cur 5)) := Lib.hid (HR2.out.alloc _)
          change Code.wp _ _ _ _ (wr.alloc (.cells (words zeros) 72))
          generalize wr.alloc (.cells (words zeros) 72) = wB at *
          generalize wr.heap.size = bB at *
          clear HRC2 HR2
          go_loopw [9] (fun i W => ∃ x : Nat, x ≤ 5 ∧ i = .int .i64 x ∧ Hid (RC w W tB lB cur) ∧ Hid (W.rowIs cB 71 5 (rcolRow cur 5)) ∧ Hid (W.rowIs bB 72 25 (wordRow (rbTo cur (5 * x))))) (fun i _ => 5 - (intOf i).toNat)
          case atStart => exact ⟨0, by omega, rfl, HRC3', HR3', HBRow⟩
          case round =>
            obtain ⟨x, hx, rfl, HRC3, HR3, HB3⟩ := hrel
            by_cases hx5 : x < 5
            · have d0 := HR3.out.cell (i := (x + 4) % 5) (by omega)
              have d1 := HR3.out.cell (i := (x + 1) % 5) (by omega)
              rw [rcolRow, if_pos (by omega)] at d0 d1
              have hb := rdcol_bits HOC.out x
              have hdx : decide ((x : Int) < 5) = true := decide_eq_true (by omega)
              go_wp2
              go_quiet ((go_at_call 67; exact Calls.quiet_of (rturned_one _ _ (rcol_lt HOC.out _))))
              go_wp2
              have HRC4' := Lib.hid (HRC3.out.drewN nq)
              have HR4' := Lib.hid (rowIs_drewN HR3.out nq)
              have HB4' := Lib.hid (rowIs_drewN HB3.out nq)
              clear d0 d1 hb HRC3 HR3 HB3
              generalize wr.drewN nq = wD at *
              go_loopw [11] (fun i W => ∃ y : Nat, y ≤ 5 ∧ i = .int .i64 y ∧ Hid (RC w W tB lB cur) ∧ Hid (W.rowIs cB 71 5 (rcolRow cur 5)) ∧ Hid (W.rowIs bB 72 25 (wordRow (rbTo cur (5 * x + y))))) (fun i _ => 5 - (intOf i).toNat)
              case atStart => exact ⟨0, by omega, rfl, HRC4', HR4', HB4'⟩
              case round =>
                obtain ⟨y, hy, rfl, HRC5, HR5, HB5⟩ := hrel
                by_cases hy5 : y < 5
                · have c0 := HRC5.out.words.cell (i := x * 5 + y) (by omega)
                  have c1 := HRC5.out.turns.cell (i := x * 5 + y) (by omega)
                  unfold wordRow at c0
                  unfold nums at c1
                  have d0 := HB5.out.cell (i := y * 5 + (2 * x + 3 * y) % 5) (by omega)
                  have d1 := HB5.out.frozen (y * 5 + (2 * x + 3 * y) % 5)
                  have hmx := mix_bits (HOC.out.2 (x * 5 + y)) (rdcol_lt HOC.out x)
                  have hlm : mix (gt cur (x * 5 + y)) (rdcol cur x) < 18446744073709551616 := xor_lt (HOC.out.2 _) (rdcol_lt HOC.out x)
                  have htl := rturns_lt (x * 5 + y) (by omega)
                  have hx0 : (0 : Int) ≤ (x : Int) := by omega
                  have hx1 : (x : Int) < 5 := by omega
                  have hy0 : (0 : Int) ≤ (y : Int) := by omega
                  have hy1 : (y : Int) < 5 := by omega
                  have hdy : decide ((y : Int) < 5) = true := decide_eq_true (by omega)
                  have n1 : bB ≠ w.heap.size := by omega
                  have n1' : w.heap.size ≠ bB := by omega
                  have n2 : bB ≠ tB := by omega
                  have n2' : tB ≠ bB := by omega
                  go_wp2
                  have q1 : IntKind.i64.wrap (2 * (x : Int)) = 2 * (x : Int) := IntWalk.i64_in _ (by omega)
                  have q2 : IntKind.i64.wrap (3 * (y : Int)) = 3 * (y : Int) := IntWalk.i64_in _ (by omega)
                  have q3 : IntKind.i64.wrap (2 * (x : Int) + 3 * (y : Int)) = 2 * (x : Int) + 3 * (y : Int) := IntWalk.i64_in _ (by omega)
                  have q4 : (2 * (x : Int) + 3 * (y : Int)).tmod 5 = (2 * (x : Int) + 3 * (y : Int)) % 5 := Int.tmod_eq_emod_of_nonneg (by omega)
                  have q5 : 0 ≤ (2 * (x : Int) + 3 * (y : Int)) % 5 := by omega
                  have q6 : (2 * (x : Int) + 3 * (y : Int)) % 5 < 5 := by omega
                  have q7 : ((2 * (x : Int) + 3 * (y : Int)) % 5).toNat = (2 * x + 3 * y) % 5 := by omega
                  go_region_held3 (fun w' => w'.cell? ⟨w.heap.size, x * 5 + y, none⟩ = some (.int .u64 (gt cur (x * 5 + y) : Nat)) ∧ w'.cell? ⟨tB, x * 5 + y, none⟩ = some (.int .i64 (gt rturns (x * 5 + y) : Nat)) ∧ w'.frozen? ⟨bB, y * 5 + (2 * x + 3 * y) % 5, none⟩ = false) (go_keep) (first | (go_at_call 67; refine (rturned_any _ _ _ hlm htl).mono ?_; rintro e' w' ⟨rfl, nq, rfl⟩))
                  clear q1 q2 q3 q4 q7
                  go_wp2
                  go_roundw
                  case rel =>
                    have r1 := (HRC5.out.drewN (1 + nq)).set (g := bB) (i := y * 5 + (2 * x + 3 * y) % 5) (by omega) n2 (by omega) (.int .u64 (rotl (mix (gt cur (x * 5 + y)) (rdcol cur x)) (gt rturns (x * 5 + y)) : Nat))
                    have r2 := (rowIs_drewN HR5.out (1 + nq)).setOther (a := ⟨bB, y * 5 + (2 * x + 3 * y) % 5, none⟩) (by show cB ≠ bB; omega) (.int .u64 (rotl (mix (gt cur (x * 5 + y)) (rdcol cur x)) (gt rturns (x * 5 + y)) : Nat))
                    have r3 := rb_succ hx5 hy5 HOC.out (rowIs_drewN HB5.out (1 + nq))
                    first
                      | exact ⟨y + 1, by omega, by go_num, Lib.hid r1, Lib.hid r2, Lib.hid r3⟩
                      | ((repeat apply Exists.intro); exact ⟨⟨y + 1, by omega, by go_num, Lib.hid r1, Lib.hid r2, Lib.hid r3⟩, rfl⟩)
                  case measure => simp [intOf]; omega
                · obtain rfl : y = 5 := by omega
                  go_wp2
                  go_roundw
                  case rel => exact ⟨x + 1, by omega, by go_num, HRC5, HR5, HB5⟩
                  case measure => simp [intOf]; omega
            · obtain rfl : x = 5 := by omega
              have hob : Ok (rbTo cur (5 * 5)) := ok_rbTo HOC.out 25 (Nat.le_refl _)
              have HNX2 : Hid (rchangeTo us (k + 1) = (rjoinTo cur (rbTo cur (5 * 5)) 25).set 0 (gt (rjoinTo cur (rbTo cur (5 * 5)) 25) 0 ^^^ gt roundsT k)) := Lib.hid HNX.out
              generalize rbTo cur (5 * 5) = bb at *
              have HOB := Lib.hid hob; clear hob
              clear HRC3' HR3' HBRow
              go_wp2
              go_loopw [12] (fun i W => ∃ x : Nat, x ≤ 5 ∧ i = .int .i64 x ∧ Hid (RC w W tB lB (rjoinTo cur bb (5 * x))) ∧ Hid (W.rowIs bB 72 25 (wordRow bb))) (fun i _ => 5 - (intOf i).toNat)
              case atStart => exact ⟨0, by omega, rfl, Lib.hid (by rw [Nat.mul_zero, rjoinTo_zero HOC.out]; exact HRC3.out), HB3⟩
              case round =>
                obtain ⟨x, hx, rfl, HRC6, HB6⟩ := hrel
                by_cases hx5 : x < 5
                · go_wp2
                  go_loopw [13] (fun i W => ∃ y : Nat, y ≤ 5 ∧ i = .int .i64 y ∧ Hid (RC w W tB lB (rjoinTo cur bb (5 * x + y))) ∧ Hid (W.rowIs bB 72 25 (wordRow bb))) (fun i _ => 5 - (intOf i).toNat)
                  case atStart => exact ⟨0, by omega, rfl, HRC6, HB6⟩
                  case round =>
                    obtain ⟨y, hy, rfl, HRC7, HB7⟩ := hrel
                    by_cases hy5 : y < 5
                    · have c0 := HB7.out.cell (i := x * 5 + y) (by omega)
                      have c1 := HB7.out.cell (i := (x + 1) % 5 * 5 + y) (by omega)
                      have c2 := HB7.out.cell (i := (x + 2) % 5 * 5 + y) (by omega)
                      unfold wordRow at c0 c1 c2
                      have d0 := HRC7.out.words.cell (i := x * 5 + y) (by omega)
                      have d1 := HRC7.out.words.frozen (x * 5 + y)
                      have hj := rjw_bits HOB.out (x * 5 + y) (x * 5 + y) ((x + 1) % 5 * 5 + y) ((x + 2) % 5 * 5 + y) rfl (by omega) (by omega)
                      go_wp2
                      go_region
                      go_wp2
                      go_roundw
                      case rel => exact ⟨y + 1, by omega, by go_num, Lib.hid (HRC7.out.join hx5 hy5).drew, Lib.hid (HB7.out.setOther (by show bB ≠ w.heap.size; omega) _).drew⟩
                      case measure => simp [intOf]; omega
                    · obtain rfl : y = 5 := by omega
                      go_wp2
                      go_roundw
                      case rel => exact ⟨x + 1, by omega, by go_num, HRC7, HB7⟩
                      case measure => simp [intOf]; omega
                · obtain rfl : x = 5 := by omega
                  have hoj : Ok (rjoinTo cur bb (5 * 5)) := ok_rjoinTo HOC.out HOB.out _
                  have HRC8 : Hid (RC w wr tB lB (rjoinTo cur bb (5 * 5))) := HRC6
                  have HNX3 : Hid (rchangeTo us (k + 1) = (rjoinTo cur bb (5 * 5)).set 0 (mix (gt (rjoinTo cur bb (5 * 5)) 0) (gt roundsT k))) := HNX2
                  clear HRC6 HNX2
                  generalize rjoinTo cur bb (5 * 5) = jj at *
                  have HOJ := Lib.hid hoj; clear hoj
                  have c0 := HRC8.out.words.cell (i := 0) (by omega)
                  unfold wordRow at c0
                  have f0 := HRC8.out.words.frozen 0
                  have c1 := HRC8.out.consts.cell (i := k) hlt
                  unfold nums at c1
                  have hio := mix_bits (HOJ.out.2 0) (rounds_lt k hlt)
                  go_wp2
                  go_region
                  go_wp2
                  go_roundw
                  case rel => exact ⟨k + 1, by omega, by go_num, Lib.hid (by rw [HNX3.out]; exact (HRC8.out.word HOJ.out.1 0 _ (by omega)).drew)⟩
                  case measure => simp [intOf]; omega
    · obtain rfl : k = 24 := by omega
      have hoc := ok_rchangeTo HO.out 24 (Nat.le_refl _)
      generalize hmm : rchangeTo us 24 = mm at *
      have hl : mm.length = 25 := hoc.1
      have hc := heap_words HRC1.out.words hl
      have hz := heap_words HRC1.out.res ok_zeros.1
      have hi : (Tryd.prog.info? 72).map (·.size) = some (words mm).size := by rw [words_size, hl]; kernel_rfl
      have hzm : (words zeros).size = (words mm).size := by rw [words_size, words_size, ok_zeros.1, hl]
      have HC := Lib.hid hc; have HZ := Lib.hid hz; have HZM' := Lib.hid hzm; have HI' := Lib.hid hi; have HMM := Lib.hid hmm; clear hc hz hl hi hzm hmm hoc
      go_wp2_with (first | (refine wpList_load_row rfl 72 (.tmp 1) rfl w.heap.size rfl 72 (words mm) (0, 0) _ HC.out Tryd.underlying72 rfl HI'.out ?_) | (refine wpList_store_row rfl 72 (.tmp 2) (.tmp 135) rfl (w.heap.size + 1) (words mm) rfl rfl 72 (words zeros) HZ.out HI'.out HZM'.out (words_one _) ?_))
      refine bodyPost_ret (v := .agg (words mm)) (results_cell_row (p := 2) (ty := 72) (by kernel_rfl) _ _ (w.heap.size + 1) 72 (words mm) (0, 0) _ rfl (setRow_heap _ _ _ _ _ _ HZ.out) Tryd.underlying72 rfl HI'.out) rfl ⟨by rw [HMM.out], below_setRow HRC1.out.below (by omega) _⟩

end Go.Proofs.YtdkhiooiakdecaaDoorR.Kec
