/- Walks: blockOf. Walks: sum of a block and of parts. Walks: tag, Mac, Extract. Walks: Equal, mayBeAsked, great. -/
import Derived.Test.YtkplkfokpniflaaDoorShaM1
import Derived.Test.YtkplkfokpniflaaDoorShaM2
import Derived.Deep.DeepMust
namespace Go.Proofs.YtkplkfokpniflaaDoor.Sha
set_option linter.all false
open Go.RowKit

def z64b : List Nat := tab 64 fun _ => 0
theorem z64b_len : z64b.length = 64 := tab_len _ _
def zb : Array Value := (bcells z64b).toArray
theorem zb_size : zb.size = 64 := by simp [zb, bcells_len, z64b_len]
theorem run_zero_block (w : World) : (zeroValue 88).run Tryd.prog w = .ok (.agg zb) w := by
  have h : (Tryd.prog.info? 88).map (·.zero) = some (some (.agg zb)) := by kernel_rfl
  cases hq : Tryd.prog.info? 88 with
  | none => simp [hq] at h
  | some i =>
    have hz : i.zero = some (.agg zb) := by simpa [hq] using h
    simp [zeroValue, typeInfo, hq, hz]
theorem byte_size : (Tryd.prog.info? 5).map (·.size) = some 1 := by kernel_rfl
theorem block_size (bs : List Nat) (h : bs.length = 64) : (Tryd.prog.info? 88).map (·.size) = some (bcells bs).toArray.size := by
  rw [List.size_toArray, bcells_len, h]; kernel_rfl
theorem bcells_one_all (bs : List Nat) : (bcells bs).toArray.all (·.oneCell') = true := by
  rw [Array.all_eq_true_iff_forall_mem]
  intro v hv
  rw [List.mem_toArray] at hv
  exact bcells_one bs v hv
theorem splice_block (key : List Nat) : splice (bcells z64b) 0 (bcells (keyed key)) = bcells (blockK key) := by
  unfold splice
  rw [List.take_zero, List.nil_append, Nat.zero_add]
  have hk := keyed_len key
  have hB : (blockK key).length = 64 := tab_len _ _
  apply List.ext_getElem?
  intro i
  rw [List.getElem?_append]
  by_cases hi : i < 64
  · rw [bcells_at (blockK key) i (by omega), show gt (blockK key) i = gt (keyed key) i from gt_tab _ _ _ hi, bcells_len]
    by_cases h : i < (keyed key).length
    · rw [if_pos h, bcells_at _ _ h]
    · rw [if_neg h, List.getElem?_drop, bcells_at _ _ (by rw [z64b_len]; omega), gt_ge (keyed key) i (by omega)]
      unfold z64b
      rw [gt_tab _ _ _ (by omega)]
  · rw [List.getElem?_eq_none (l := bcells (blockK key)) (by rw [bcells_len]; omega), bcells_len]
    rw [if_neg (by omega), List.getElem?_eq_none (by simp [bcells_len, z64b_len]; omega)]

theorem news_pos {w : World} {B : Nat} {A : Option Addr} {bs ks : List Nat} (h : Rd w B A bs) (e : ks = bs) : 0 < (bcells ks).length → ∃ ad, A = some ad ∧ ∀ j v, (bcells ks)[j]? = some v → w.cell? (ad.add j) = some v := by
  subst e
  intro h0
  rw [bcells_len] at h0
  obtain ⟨ad, e, _, _⟩ := h.2 h0
  subst e
  exact ⟨ad, rfl, news_of_rd h⟩

set_option maxHeartbeats 1000000 in
set_option maxRecDepth 100000 in
theorem blockOf_any (A : Option Addr) (bs : List Nat) (n c : Nat) (w : World) (hT : Tables w) (hR : Rd w w.heap.size A bs) (hn : bs.length = n) (hnc : n ≤ c) (hc : c ≤ 9223372036854775807) (hm : n ≤ 1000000) :
    Calls Tryd.prog 64 #[.slice A n c] w fun e w' => e = .returned (.agg (bcells (blockK bs)).toArray) ∧ Below w.heap.size w w' := by
  have h2 := hT.lt
  have HT := Lib.hid hT; have HR := Lib.hid hR; have HN := Lib.hid (fun _ : Unit => hn); clear hT hR hn
  have HI := Lib.hid (block_size (blockK bs) (tab_len _ _))
  have HSZ := Lib.hid (show zb.size = (bcells (blockK bs)).toArray.size by rw [zb_size, List.size_toArray, bcells_len]; exact (tab_len _ _).symm)
  have HONE := Lib.hid (bcells_one_all (blockK bs))
  have hz := run_zero_block w
  have hz2 := run_zero_block
  have HZ := Lib.hid (splice_block bs)
  by_cases h64 : 64 < n
  · have y0 : (64 : Int) < (n : Int) := by omega
    have HK : Hid (keyed bs = sum bs) := Lib.hid (by unfold keyed; rw [if_pos (by rw [HN.out ()]; exact h64)])
    have HG1 := Lib.hid (heap_alloc_last w (.cells zb 88))
    have HB1 := Lib.hid ((Below.refl w.heap.size w).alloc (Nat.le_refl _) (.cells zb 88))
    have hsz1 : (w.alloc (.cells zb 88)).heap.size = w.heap.size + 1 := by simp
    go_enter Tryd.func64, Tryd.ntmps64
    go_wp2_with fail
    generalize w.alloc (.cells zb 88) = w1 at *
    refine (sum_any A bs n c w1 (HT.out.below HB1.out h2) ((HR.out.below HB1.out).more (by omega)) (HN.out ()) hnc hc hm).mono ?_
    rintro e' w2 ⟨h, cap, rfl, hown, hB2⟩
    have HOWN := Lib.hid hown
    have HB2 := Lib.hid (HB1.out.trans (hB2.mono (by omega)))
    have HG2 := Lib.hid ((hB2.block w.heap.size (by omega)).trans HG1.out)
    have hs2 := HB2.out.size
    have hw2 : w.heap.size < w2.heap.size := by have := hB2.size; omega
    clear hown hB2 HG1 HB1
    have HG := Lib.hid (heap_alloc_last w2 (.cells zb 88))
    have HB := Lib.hid (HB2.out.alloc hs2 (.cells zb 88))
    have HBn := Lib.hid ((Below.refl w2.heap.size w2).alloc (Nat.le_refl _) (.cells zb 88))
    have HG3 := Lib.hid ((Below.heap_alloc w2 (.cells zb 88) w.heap.size hw2).trans HG2.out)
    have HRb := Lib.hid ((rd_of_own HOWN.out (sum_lt bs) (Nat.le_refl _)).below ((Below.refl w2.heap.size w2).alloc (Nat.le_refl _) (.cells zb 88)))
    have HPS := Lib.hid (news_pos HRb.out HK.out)
    have hz3 := run_zero_block w2
    go_wp2_with (refine wpList_copy_splice rfl (.tmp 9) (.tmp 10) 22 22 rfl 5 Tryd.underlying22 byte_size _ (some ⟨h, 0, none⟩) 64 64 32 cap rfl rfl w2.heap.size 0 (bcells z64b) 88 HG.out (bcells (keyed bs)) (by rw [bcells_len, HK.out, sum_len]; rfl) (fun h0 => ⟨rfl, HPS.out h0⟩) (by rw [bcells_len, bcells_len, z64b_len]; have := keyed_len bs; omega) (bcells_one _) w2.heap.size w2 HBn.out (Nat.le_refl _) ?_)
    intro w3 HG4 hB3
    rw [HZ.out] at HG4
    have HG5 := Lib.hid ((hB3.block w.heap.size hw2).trans HG2.out)
    have HB3 := Lib.hid (HB2.out.trans (hB3.mono hs2))
    clear hB3 HG HG2 HG3 HB HRb HPS HBn
    go_wp2_with (first | (refine wpList_load_row rfl 88 (.tmp 3) rfl w2.heap.size rfl 88 (bcells (blockK bs)).toArray (0, 0) _ HG4.out Tryd.underlying88 rfl HI.out ?_) | (refine wpList_store_row rfl 88 (.tmp 2) (.tmp 12) rfl w.heap.size (bcells (blockK bs)).toArray rfl rfl 88 zb HG5.out HI.out HSZ.out HONE.out ?_))
    refine bodyPost_ret (v := .agg (bcells (blockK bs)).toArray) (results_cell_row (p := 2) (ty := 88) (by kernel_rfl) _ _ w.heap.size 88 (bcells (blockK bs)).toArray (0, 0) _ rfl (setRow_heap _ _ _ _ _ _ HG5.out) Tryd.underlying88 rfl HI.out) rfl ⟨rfl, below_setRow HB3.out (Nat.le_refl _) _⟩
  · have hm0 : Nat.min n 64 = n := Nat.min_eq_left (by omega)
    have y0 : ¬ (64 : Int) < (n : Int) := by omega
    have HK : Hid (keyed bs = bs) := Lib.hid (by unfold keyed; rw [if_neg (by rw [HN.out ()]; exact h64)])
    have HG := Lib.hid (heap_alloc_last (w.alloc (.cells zb 88)) (.cells zb 88))
    have HB := Lib.hid (((Below.refl w.heap.size w).alloc (Nat.le_refl _) (.cells zb 88)).alloc (by simp) (.cells zb 88))
    have HG1 := Lib.hid ((Below.heap_alloc (w.alloc (.cells zb 88)) (.cells zb 88) w.heap.size (by simp)).trans (heap_alloc_last w (.cells zb 88)))
    have HRb := Lib.hid (HR.out.below HB.out)
    have HPS := Lib.hid (news_pos HRb.out HK.out)
    have hsz1 : (w.alloc (.cells zb 88)).heap.size = w.heap.size + 1 := by simp
    rw [hsz1] at HG
    go_enter Tryd.func64, Tryd.ntmps64
    go_wp2_with (refine wpList_copy_splice rfl (.tmp 9) (.tmp 10) 22 22 rfl 5 Tryd.underlying22 byte_size _ A 64 64 n c rfl rfl (w.heap.size + 1) 0 (bcells z64b) 88 HG.out (bcells (keyed bs)) (by rw [bcells_len, HK.out, HN.out ()]; exact hm0.symm) (fun h0 => ⟨rfl, HPS.out h0⟩) (by rw [bcells_len, bcells_len, z64b_len]; have := keyed_len bs; omega) (bcells_one _) (w.heap.size + 1) _ (Below.refl _ _) (Nat.le_refl _) ?_)
    intro w1 HG2 hB2
    rw [HZ.out] at HG2
    have HG3 := Lib.hid ((hB2.block w.heap.size (by omega)).trans HG1.out)
    have HB3 := Lib.hid (HB.out.trans (hB2.mono (by omega)))
    clear hB2 HG HG1 HB HRb
    go_wp2_with (first | (refine wpList_load_row rfl 88 (.tmp 3) rfl (w.heap.size + 1) rfl 88 (bcells (blockK bs)).toArray (0, 0) _ HG2.out Tryd.underlying88 rfl HI.out ?_) | (refine wpList_store_row rfl 88 (.tmp 2) (.tmp 12) rfl w.heap.size (bcells (blockK bs)).toArray rfl rfl 88 zb HG3.out HI.out HSZ.out HONE.out ?_))
    refine bodyPost_ret (v := .agg (bcells (blockK bs)).toArray) (results_cell_row (p := 2) (ty := 88) (by kernel_rfl) _ _ w.heap.size 88 (bcells (blockK bs)).toArray (0, 0) _ rfl (setRow_heap _ _ _ _ _ _ HG3.out) Tryd.underlying88 rfl HI.out) rfl ⟨rfl, below_setRow HB3.out (Nat.le_refl _) _⟩
end Go.Proofs.YtkplkfokpniflaaDoor.Sha

namespace Go.Proofs.YtkplkfokpniflaaDoor.Sha
set_option linter.all false
open Go.RowKit

/-- a part: a slice, and the bytes that it has -/
structure Pt where
  A : Option Addr
  n : Nat
  c : Nat
  bs : List Nat
def Pt.Lies (w : World) (p : Pt) : Prop := Rd w w.heap.size p.A p.bs ∧ p.bs.length = p.n ∧ p.n ≤ p.c ∧ p.c ≤ 9223372036854775807
def joined : List Pt → List Nat
  | [] => []
  | p :: l => p.bs ++ joined l
def total : List Pt → Nat
  | [] => 0
  | p :: l => p.n + total l
def Parts (w : World) (g : Nat) (ps : List Pt) : Prop := ∀ j, ∀ p, ps[j]? = some p → w.cell? ⟨g, j, none⟩ = some (.slice p.A p.n p.c) ∧ p.Lies w
theorem Pt.Lies.below {w w' : World} {p : Pt} (h : p.Lies w) (hb : Below w.heap.size w w') : p.Lies w' := ⟨(h.1.below hb).more hb.size, h.2⟩
theorem Parts.below {w w' : World} {g : Nat} {ps : List Pt} (h : Parts w g ps) (hb : Below w.heap.size w w') : Parts w' g ps := fun j p hp =>
  ⟨(hb.cell (p := ⟨g, j, none⟩) (block_lt_of_cell (h j p hp).1)).trans (h j p hp).1, (h j p hp).2.below hb⟩
theorem joined_append : ∀ (a b : List Pt), joined (a ++ b) = joined a ++ joined b
  | [], _ => rfl
  | p :: a, b => by show p.bs ++ joined (a ++ b) = _; rw [joined_append a b]; show _ = p.bs ++ joined a ++ joined b; rw [List.append_assoc]
theorem total_append : ∀ (a b : List Pt), total (a ++ b) = total a + total b
  | [], b => by show total b = 0 + total b; omega
  | p :: a, b => by show p.n + total (a ++ b) = p.n + total a + total b; rw [total_append a b]; omega
theorem take_part {ps : List Pt} {k : Nat} {p : Pt} (h : ps[k]? = some p) : ps.take (k + 1) = ps.take k ++ [p] := by
  rw [List.take_add_one, h]; rfl
theorem joined_take {ps : List Pt} {k : Nat} {p : Pt} (h : ps[k]? = some p) : joined (ps.take (k + 1)) = joined (ps.take k) ++ p.bs := by
  rw [take_part h, joined_append]; show _ ++ (p.bs ++ []) = _; rw [List.append_nil]
theorem total_take_le (ps : List Pt) (k : Nat) : total (ps.take k) ≤ total ps := by
  have := total_append (ps.take k) (ps.drop k)
  rw [List.take_append_drop] at this; omega
theorem total_take {ps : List Pt} {k : Nat} {p : Pt} (h : ps[k]? = some p) : total (ps.take (k + 1)) = total (ps.take k) + p.n := by
  rw [take_part h, total_append]; show _ + (p.n + 0) = _; omega
theorem joined_lt {w : World} {g : Nat} {ps : List Pt} (h : Parts w g ps) : ∀ k, ∀ j, gt (joined (ps.take k)) j < 256
  | 0 => fun j => by rw [List.take_zero, show joined [] = [] from rfl, gt_ge _ _ (by simp)]; omega
  | k + 1 => by
    cases hk : ps[k]? with
    | none =>
      have : ps.length ≤ k := by simpa using hk
      intro j
      have := joined_lt h k j
      rwa [List.take_of_length_le (by omega)] at this ⊢
    | some p => rw [joined_take hk]; exact gt_append_lt (joined_lt h k) (h k p hk).2.1.1
theorem joined_len {w : World} {g : Nat} {ps : List Pt} (h : Parts w g ps) : ∀ k, (joined (ps.take k)).length = total (ps.take k)
  | 0 => by rw [List.take_zero]; rfl
  | k + 1 => by
    cases hk : ps[k]? with
    | none =>
      have : ps.length ≤ k := by simpa using hk
      have := joined_len h k
      rwa [List.take_of_length_le (by omega)] at this ⊢
    | some p => rw [joined_take hk, total_take hk, List.length_append, joined_len h k, (h k p hk).2.2.1]
theorem rn_of_row {w : World} {g q : Nat} {ws : List Nat} (h : w.rowIs g 88 64 (wordRow .u8 ws)) (ho : Ok 256 64 ws) (hne : g ≠ q) : Rn w q (some ⟨g, 0, none⟩) ws := by
  have hlt := h.lt
  refine ⟨ho.2, fun _ => ⟨_, rfl, hne, hlt, fun j hj => ?_⟩⟩
  have ha : (⟨g, 0, none⟩ : Addr).add j = ⟨g, j, none⟩ := by unfold Addr.add; split <;> simp_all
  rw [ha, h.cell (by rw [ho.1] at hj; exact hj)]; rfl
theorem xor_bits8 {a d : Nat} (h : a < 256) (h' : d < 256) : bits .xor .u8 (a : Int) (d : Int) = ((a ^^^ d : Nat) : Int) := u8_xor_nat _ _ h h'
theorem row_boxed (w : World) (k : List Nat) (h : k.length = 64) : (w.alloc (.cells (bcells k).toArray 88)).rowIs w.heap.size 88 64 (wordRow .u8 k) :=
  rowIs_words (k := .u8) (heap_alloc_last w _) h

set_option maxHeartbeats 1000000 in
set_option maxRecDepth 100000 in
theorem bsum_any (k : List Nat) (m : Nat) (ps : List Pt) (g N cap : Nat) (w : World) (hT : Tables w) (hk : Ok 256 64 k) (hm : m < 256) (hP : Parts w g ps) (hN : ps.length = N) (hNm : N ≤ 1000) (htot : total ps ≤ 1000000) :
    Calls Tryd.prog 70 #[.agg (bcells k).toArray, .int .u8 (m : Nat), .slice (some ⟨g, 0, none⟩) N cap] w (Summed w (sum (xored k m ++ joined ps))) := by
  have h2 := hT.lt
  have HT := Lib.hid hT; have HK := Lib.hid hk; have HP := Lib.hid hP; have HN := Lib.hid (fun _ : Unit => hN); clear hT hk hP hN
  have HR0 := Lib.hid (row_boxed w k HK.out.1)
  have HB0 := Lib.hid ((Below.refl w.heap.size w).alloc (Nat.le_refl _) (.cells (bcells k).toArray 88))
  generalize hX : sum (xored k m ++ joined ps) = X
  have HX := Lib.hid (fun _ : Unit => hX); clear hX
  go_enter Tryd.func70, Tryd.ntmps70
  go_wp2_with fail
  generalize w.alloc (.cells (bcells k).toArray 88) = W0 at *
  go_loopw [11] (fun i W => ∃ j : Nat, j ≤ 64 ∧ i = .int .i64 j ∧ Hid (W.rowIs w.heap.size 88 64 (wordRow .u8 (xorTo k m j))) ∧ Hid (Below w.heap.size w W)) (fun i _ => 64 - (intOf i).toNat)
  case atStart => exact ⟨0, by omega, rfl, Lib.hid (by rw [xorTo_zero HK.out]; exact HR0.out), HB0⟩
  case round =>
    obtain ⟨j, hj, rfl, HR1, HB1⟩ := hrel
    by_cases hj64 : j < 64
    · have c0 := HR1.out.cell (i := j) hj64
      have f0 := HR1.out.frozen j
      simp only [wordRow, gt_xorTo hj64] at c0
      have hx := xor_bits8 (HK.out.2 j) hm
      have yj : (j : Int) < 64 := by omega
      go_wp2
      go_roundw
      case rel => exact ⟨j + 1, by omega, by go_num, Lib.hid (by rw [← xorTo_succ hj64]; exact row_set HR1.out (tab_len _ _) j _ hj64), Lib.hid (HB1.out.setCell (Nat.le_refl _) _)⟩
      case measure => simp [intOf]; omega
    · obtain rfl : j = 64 := by omega
      have HR2 := Lib.hid (show wr.rowIs w.heap.size 88 64 (wordRow .u8 (xored k m)) from HR1.out)
      have hs1 := HR2.out.lt
      go_wp2_with fail
      refine (new_any _ (HT.out.below HB1.out h2)).mono ?_
      rintro e' w1 ⟨rfl, hS, hB, hz⟩
      have HS1 := Lib.hid hS; have HBn := Lib.hid hB; have HB2 := Lib.hid (HB1.out.trans (hB.mono HB1.out.size)); clear hS hB
      have HR3 := Lib.hid (HR2.out.of_block (HBn.out.block _ hs1))
      have HOX := Lib.hid (ok_xored HK.out hm)
      generalize wr.heap.size = x at *
      go_wp2_with fail
      refine (write_any x start (some ⟨w.heap.size, 0, none⟩) (xored k m) 64 64 _ HS1.out good_start (HT.out.below HB2.out h2) (by omega) (rn_of_row HR3.out HOX.out (by omega)) HOX.out.1 (by omega) (by omega) (by show 0 + 64 ≤ _; omega)).mono ?_
      rintro e' w2 ⟨rfl, hS2, hG2⟩
      have HS2 := Lib.hid hS2; have HB3 := Lib.hid (below_of_only HB2.out hG2 (by omega)); clear hS2 hG2
      have HG2 := Lib.hid (good_takeAll (xored k m) good_start HOX.out.2)
      go_wp2
      go_loopw [27] (fun i W => ∃ j : Nat, j ≤ N ∧ i = .int .i64 j ∧ Hid (HsAt W x (takeAll start (xored k m ++ joined (ps.take j)))) ∧ Hid (Below w.heap.size w W)) (fun i _ => N - (intOf i).toNat)
      case atStart => exact ⟨0, by omega, rfl, Lib.hid (by rw [List.take_zero, show joined [] = [] from rfl, List.append_nil]; exact HS2.out), HB3⟩
      case round =>
        obtain ⟨j, hj, rfl, HS4, HB4⟩ := hrel
        have HP4 := Lib.hid (HP.out.below HB4.out)
        have hlen : (takeAll start (xored k m ++ joined (ps.take j))).n = 64 + total (ps.take j) := by
          rw [takeAll_n, List.length_append, xored_len, joined_len HP4.out]; show 0 + _ = _; omega
        have htj := total_take_le ps j
        have HGd := Lib.hid (good_takeAll (xored k m ++ joined (ps.take j)) good_start (gt_append_lt HOX.out.2 (joined_lt HP4.out j)))
        have hx4 := HS4.out.lt
        by_cases hjN : j < N
        · obtain ⟨p, hp⟩ : ∃ p, ps[j]? = some p := ⟨_, List.getElem?_eq_getElem (by rw [HN.out ()]; exact hjN)⟩
          have htj1 := total_take_le ps (j + 1)
          rw [total_take hp] at htj1
          obtain ⟨c0, hR, hl, hnc, hc⟩ := HP4.out j p hp
          have HJ := Lib.hid (fun _ : Unit => joined_take hp)
          obtain ⟨A, n, c, bs⟩ := p
          dsimp only at c0 hR hl hnc hc htj1 HJ
          have HRp := Lib.hid ((HP.out j _ hp).2.1); dsimp only at HRp
          have HRb := Lib.hid hR; have HL := Lib.hid (fun _ : Unit => hl); clear hR hl hp
          obtain ⟨s1, hs1e⟩ : ∃ s1, takeAll start (xored k m ++ joined (ps.take j)) = s1 := ⟨_, rfl⟩
          have HS1e := Lib.hid (fun _ : Unit => hs1e)
          rw [hs1e] at HS4 hlen HGd
          clear hs1e
          have yj : (j : Int) < (N : Int) := by omega
          go_wp2_with fail
          refine (write_any x s1 A bs n c _ HS4.out HGd.out (HT.out.below HB4.out h2) (by omega) ((HRp.out.below HB4.out).apart (by omega) HB4.out.size) (HL.out ()) hnc hc (by omega)).mono ?_
          rintro e' w4 ⟨rfl, hS5, hG5⟩
          have HS5 := Lib.hid hS5; have HB5 := Lib.hid (below_of_only HB4.out hG5 (by omega)); clear hS5 hG5
          go_wp2
          go_roundw
          case rel => exact ⟨j + 1, by omega, by go_num, Lib.hid (by rw [HJ.out (), ← List.append_assoc, takeAll_append, HS1e.out ()]; exact HS5.out), HB5⟩
          case measure => simp [intOf]; omega
        · obtain rfl : j = N := by omega
          have HE : Hid (Unit → sumOf (takeAll start (xored k m ++ joined (ps.take j))) = X) := Lib.hid fun _ => by rw [List.take_of_length_le (by rw [HN.out ()]; omega), ← HX.out ()]; rfl
          generalize takeAll start (xored k m ++ joined (ps.take j)) = s1 at *
          go_wp2_with fail
          refine (hsum_any x s1 _ HS4.out HGd.out (HT.out.below HB4.out h2) (by omega)).mono ?_
          rintro e' w4 ⟨h, cp, rfl, hown, hB5⟩
          have HOWN := Lib.hid hown; have HB5 := Lib.hid (HB4.out.trans (hB5.mono HB4.out.size)); clear hown hB5
          go_wp2
          go_ret
          refine ⟨h, cp, rfl, ?_, HB5.out⟩
          rw [← HE.out ()]
          exact own_lower HOWN.out HB4.out.size
end Go.Proofs.YtkplkfokpniflaaDoor.Sha

namespace Go.Proofs.YtkplkfokpniflaaDoor.Sha
set_option linter.all false
open Go.RowKit
attribute [local go_sem ↓] Go.wp_at_zero Go.wp_at_succ

/-- a block that is loaded whole -/
def Whole (g : Nat) (k : List Nat) (w : World) : Prop := (Instr.loadAt 88 (.pointer (some ⟨g, 0, none⟩))).run Tryd.prog w = .ok (.agg (bcells k).toArray) w
theorem whole_of_heap {w : World} {g : Nat} {k : List Nat} (hk : k.length = 64) (h : w.heap[g]? = some (.cells (bcells k).toArray 88 (0, 0))) : Whole g k w := by
  unfold Whole
  simp only [Instr.loadAt, Instr.sureAddr, Sem.run_bind, Sem.run_pure, Result.andThen]
  exact run_loadVar_row _ _ 88 88 _ (0, 0) _ h Tryd.underlying88 rfl (block_size k hk)
theorem whole_run {g : Nat} {k : List Nat} {w : World} (h : Whole g k w) {ev : Operand → Value} {o : Oper} {p : Operand} (ho : o.op = .load 88 p) (hp : ev p = .pointer (some ⟨g, 0, none⟩)) :
    (execOp ev o).run Tryd.prog w = .ok (.value (.agg (bcells k).toArray)) w := by
  unfold Whole at h
  unfold execOp
  simp only [ho, hp, Sem.run_bind, h, Result.andThen_ok, Sem.run_pure]
theorem parts_one (w : World) (p : Pt) (h : p.Lies w) : Parts (w.alloc (.cells #[.slice p.A p.n p.c] 22)) w.heap.size [p] := by
  intro j q hq
  match j, hq with
  | 0, hq =>
    obtain rfl : p = q := by simpa using hq
    exact ⟨by rw [cell_of_row _ _ 0 _ 22 (0, 0) (heap_alloc_last w _)]; rfl, h.below ((Below.refl _ _).alloc (Nat.le_refl _) _)⟩
  | _ + 1, hq => simp at hq

set_option maxHeartbeats 1000000 in
set_option maxRecDepth 100000 in
theorem tag_any (k : List Nat) (ps : List Pt) (g N cap : Nat) (w : World) (hT : Tables w) (hk : Ok 256 64 k) (hP : Parts w g ps) (hN : ps.length = N) (hNm : N ≤ 1000) (htot : total ps ≤ 1000000) :
    Calls Tryd.prog 65 #[.agg (bcells k).toArray, .slice (some ⟨g, 0, none⟩) N cap] w (Summed w (tag k (joined ps))) := by
  have h2 := hT.lt
  have HT := Lib.hid hT; have HK := Lib.hid hk; have HP := Lib.hid hP; have HN := Lib.hid (fun _ : Unit => hN); clear hT hk hP hN
  have HG0 := Lib.hid (heap_alloc_last w (.cells (bcells k).toArray 88))
  have HB0 := Lib.hid ((Below.refl w.heap.size w).alloc (Nat.le_refl _) (.cells (bcells k).toArray 88))
  generalize hX : tag k (joined ps) = X
  have HX := Lib.hid (fun _ : Unit => hX); clear hX
  go_enter Tryd.func65, Tryd.ntmps65
  go_wp2_with fail
  generalize w.alloc (.cells (bcells k).toArray 88) = W0 at *
  refine region_calm ?_
  refine wp_region_any (by kernel_rfl) ?_
  change wpAny _ _ _ _ _ _ _ (World.drew _)
  replace HB0 := Lib.hid (Below.drew HB0.out)
  replace HG0 := Lib.hid (show W0.drew.heap[w.heap.size]? = _ from HG0.out)
  generalize W0.drew = wd at *
  have hlt : w.heap.size < wd.heap.size := (Array.getElem?_eq_some_iff.1 HG0.out).1
  have hS := whole_of_heap HK.out.1 HG0.out
  refine wpAny_of_held (S := Whole w.heap.size k) _ _ _ _ ?_
  refine wpAnyH_take (i := 0) (v := (.agg (bcells k).toArray)) rfl (by kernel_rfl) (by kernel_rfl) (by kernel_rfl) (fun _ _ _ h => h) (Or.inl ⟨by rfl, ?y0⟩) hS ?r0
  case y0 => (intro w' hSw; exact whole_run hSw rfl rfl)
  simp only [List.getElem_toArray, List.getElem_cons_succ, List.getElem_cons_zero, Act.put, List.setIfInBounds_toArray, List.set_cons_zero, List.set_cons_succ]
  refine wpAnyH_take (i := 1) (v := (.agg (bcells k).toArray)) rfl (by kernel_rfl) (by kernel_rfl) (by kernel_rfl) (fun _ _ _ h => h) (Or.inl ⟨by rfl, ?y1⟩) hS ?r1
  case y1 => (intro w' hSw; exact whole_run hSw rfl rfl)
  simp only [List.getElem_toArray, List.getElem_cons_succ, List.getElem_cons_zero, Act.put, List.setIfInBounds_toArray, List.set_cons_zero, List.set_cons_succ]
  refine wpAnyH_take (i := 2) (v := ?v2) rfl (by kernel_rfl) (by kernel_rfl) (by kernel_rfl) (fun _ _ _ h => h) (Or.inl ⟨by rfl, ?y2⟩) hS ?r2
  case y2 => (intro w hSw; clear hSw; go_simp; try with_reducible rfl)
  simp only [List.getElem_toArray, List.getElem_cons_succ, List.getElem_cons_zero, Act.put, List.setIfInBounds_toArray, List.set_cons_zero, List.set_cons_succ]
  refine wpAnyH_ready (rs := [3]) (by kernel_rfl) (by simp) ?_
  refine AllReadyH.cons rfl (fun K hK => ?_) AllReadyH.nil
  simp only [List.getElem_toArray, List.getElem_cons_succ, List.getElem_cons_zero]
  go_simp
  refine (bsum_any k 54 ps g N cap _ (HT.out.below HB0.out h2) HK.out (by omega) (HP.out.below HB0.out) (HN.out ()) hNm htot).mono ?_
  rintro e' w1 ⟨h1, c1, rfl, hown, hB1⟩
  have HO1 := Lib.hid hown; have HB1 := Lib.hid (HB0.out.trans (hB1.mono HB0.out.size)); have HG1 := Lib.hid ((hB1.block w.heap.size hlt).trans HG0.out); have hlt1 : w.heap.size < w1.heap.size := by have := hB1.size; omega
  clear hown hB1
  have hcp := own_cap HO1.out
  unfold maxLen at hcp
  have hlies : Pt.Lies w1 ⟨some ⟨h1, 0, none⟩, 32, c1, sum (xored k 54 ++ joined ps)⟩ := ⟨rd_of_own HO1.out (sum_lt _) (Nat.le_refl _), sum_len _, hcp.1, hcp.2⟩
  have HP1 := Lib.hid (parts_one w1 _ hlies)
  have HBa := Lib.hid (HB1.out.alloc HB1.out.size (.cells #[.slice (some ⟨h1, 0, none⟩) 32 c1] 22))
  have HGa := Lib.hid ((Below.heap_alloc w1 (.cells #[.slice (some ⟨h1, 0, none⟩) 32 c1] 22) w.heap.size hlt1).trans HG1.out)
  refine hK.out _ _ (whole_of_heap HK.out.1 HG1.out) (fun _ => ?_)
  clear hK K
  try simp only [List.getElem_toArray, List.getElem_cons_succ, List.getElem_cons_zero, Act.put, List.setIfInBounds_toArray, List.set_cons_zero, List.set_cons_succ]
  refine wpAnyH_ready (rs := [4]) (by kernel_rfl) (by simp) ?_
  refine AllReadyH.cons rfl (fun K hK => ?_) AllReadyH.nil
  simp only [List.getElem_toArray, List.getElem_cons_succ, List.getElem_cons_zero]
  go_simp
  refine hK.out _ _ (whole_of_heap HK.out.1 HGa.out) (fun _ => ?_)
  clear hK K
  try simp only [List.getElem_toArray, List.getElem_cons_succ, List.getElem_cons_zero, Act.put, List.setIfInBounds_toArray, List.set_cons_zero, List.set_cons_succ]
  refine wpAnyH_ready (rs := [5]) (by kernel_rfl) (by simp) ?_
  refine AllReadyH.cons rfl (fun K hK => ?_) AllReadyH.nil
  simp only [List.getElem_toArray, List.getElem_cons_succ, List.getElem_cons_zero]
  go_simp
  refine (bsum_any k 92 [⟨some ⟨h1, 0, none⟩, 32, c1, sum (xored k 54 ++ joined ps)⟩] w1.heap.size 1 1 _ (HT.out.below HBa.out h2) HK.out (by omega) HP1.out rfl (by omega) (by show 32 + 0 ≤ _; omega)).mono ?_
  rintro e' w2 ⟨h3, c3, rfl, hown, hB2⟩
  have HO2 := Lib.hid hown; have HB2 := Lib.hid (HBa.out.trans (hB2.mono HBa.out.size)); have HG2 := Lib.hid ((hB2.block w.heap.size (by simp; omega)).trans HGa.out); clear hown hB2
  refine hK.out _ _ (whole_of_heap HK.out.1 HG2.out) (fun _ => ?_)
  clear hK K
  try simp only [List.getElem_toArray, List.getElem_cons_succ, List.getElem_cons_zero, Act.put, List.setIfInBounds_toArray, List.set_cons_zero, List.set_cons_succ]
  refine wpAnyH_take (i := 6) (v := ?v6) rfl (by kernel_rfl) (by kernel_rfl) (by kernel_rfl) (fun _ _ _ h => h) (Or.inl ⟨by rfl, ?y6⟩) (whole_of_heap HK.out.1 HG2.out) ?r6
  case y6 => (intro w hSw; clear hSw; go_simp; try with_reducible rfl)
  simp only [List.getElem_toArray, List.getElem_cons_succ, List.getElem_cons_zero, Act.put, List.setIfInBounds_toArray, List.set_cons_zero, List.set_cons_succ]
  refine wpAnyH_done (by kernel_rfl) ?_ _
  change Exit.then _ _ Exit.normal _ _
  go_wp2
  go_ret
  refine ⟨h3, c3, rfl, ?_, HB2.out⟩
  rw [← HX.out ()]
  have e : tag k (joined ps) = sum (xored k 92 ++ joined [⟨some ⟨h1, 0, none⟩, 32, c1, sum (xored k 54 ++ joined ps)⟩]) := by
    show sum (xored k 92 ++ sum _) = sum (xored k 92 ++ (sum _ ++ [])); rw [List.append_nil]
  rw [e]
  exact own_lower HO2.out HBa.out.size

end Go.Proofs.YtkplkfokpniflaaDoor.Sha

namespace Go.Proofs.YtkplkfokpniflaaDoor.Sha
set_option linter.all false
open Go.RowKit

/-- in what two texts are unlike, so far -/
def diffTo (a b : List Nat) : Nat → Nat
  | 0 => 0
  | k + 1 => diffTo a b k ||| (gt a k ^^^ gt b k)
theorem diffTo_lt {a b : List Nat} (ha : ∀ j, gt a j < 256) (hb : ∀ j, gt b j < 256) : ∀ k, diffTo a b k < 256
  | 0 => by show 0 < 256; omega
  | k + 1 => Nat.or_lt_two_pow (n := 8) (diffTo_lt ha hb k) (xor256 (ha k) (hb k))
theorem xor_zero {a b : Nat} (h : a ^^^ b = 0) : a = b := by
  apply Nat.eq_of_testBit_eq
  intro i
  have h1 : (a ^^^ b).testBit i = (0 : Nat).testBit i := by rw [h]
  rw [Nat.testBit_xor, Nat.zero_testBit] at h1
  revert h1
  cases a.testBit i <;> cases b.testBit i <;> simp
theorem or_zero {a b : Nat} (h : a ||| b = 0) : a = 0 ∧ b = 0 := by
  have h1 : a ≤ a ||| b := Nat.left_le_or
  have h2 : b ≤ a ||| b := Nat.right_le_or
  omega
theorem diffTo_zero {a b : List Nat} : ∀ k, diffTo a b k = 0 ↔ ∀ i, i < k → gt a i = gt b i
  | 0 => ⟨fun _ i h => absurd h (by omega), fun _ => rfl⟩
  | k + 1 => by
    constructor
    · intro h i hi
      obtain ⟨h1, h2⟩ := or_zero h
      by_cases e : i = k
      · subst e; exact xor_zero h2
      · exact (diffTo_zero k).1 h1 i (by omega)
    · intro h
      have h1 := (diffTo_zero k).2 fun i hi => h i (by omega)
      show diffTo a b k ||| (gt a k ^^^ gt b k) = 0
      rw [h1, h k (by omega), Nat.xor_self]; rfl
theorem diff_same {a b : List Nat} (hl : a.length = b.length) : (diffTo a b a.length = 0) ↔ a = b := by
  rw [diffTo_zero]
  exact ⟨fun h => ext_gt rfl hl.symm h, fun h => by subst h; intros; rfl⟩
theorem or_bits8 {a d : Nat} (h : a < 256) (h' : d < 256) : bits .or .u8 (a : Int) (d : Int) = ((a ||| d : Nat) : Int) := u8_or_nat _ _ h h'

theorem asked_any (x : Int) (w : World) : Calls Tryd.prog 49 #[.int .i64 x] w fun e w' => e = .returned (.bool (decide (0 ≤ x ∧ x ≤ 8160))) ∧ w = w' := by
  go_enter Tryd.func49, Tryd.ntmps49
  go_wp2
  all_goals (go_ret; exact ⟨by simp <;> omega, rfl⟩)
end Go.Proofs.YtkplkfokpniflaaDoor.Sha
