/- Walks: sum of a block and of parts. -/
import Derived.Test.YtfcnhendebjjeaaDoorHkWalkA
namespace Go.Proofs.YtfcnhendebjjeaaDoor.Sha
set_option linter.all false
open Go.RowKit

/-- a part: a slice, and the bytes that it has -/
structure Pt where
  A : Option Addr
  n : Nat
  c : Nat
  bs : List Nat
def Pt.Lies (w : World) (p : Pt) : Prop := Rd w w.heap.size p.A p.bs ∧ p.bs.length = p.n ∧ p.n ≤ p.c ∧ p.c ≤ 9223372036854775807
def joined : List Pt → List Nat
  | [] => []
  | p :: l => p.bs ++ joined l
def total : List Pt → Nat
  | [] => 0
  | p :: l => p.n + total l
def Parts (w : World) (g : Nat) (ps : List Pt) : Prop := ∀ j, ∀ p, ps[j]? = some p → w.cell? ⟨g, j, none⟩ = some (.slice p.A p.n p.c) ∧ p.Lies w
theorem Pt.Lies.below {w w' : World} {p : Pt} (h : p.Lies w) (hb : Below w.heap.size w w') : p.Lies w' := ⟨(h.1.below hb).more hb.size, h.2⟩
theorem Parts.below {w w' : World} {g : Nat} {ps : List Pt} (h : Parts w g ps) (hb : Below w.heap.size w w') : Parts w' g ps := fun j p hp =>
  ⟨(hb.cell (p := ⟨g, j, none⟩) (block_lt_of_cell (h j p hp).1)).trans (h j p hp).1, (h j p hp).2.below hb⟩
theorem joined_append : ∀ (a b : List Pt), joined (a ++ b) = joined a ++ joined b
  | [], _ => rfl
  | p :: a, b => by show p.bs ++ joined (a ++ b) = _; rw [joined_append a b]; show _ = p.bs ++ joined a ++ joined b; rw [List.append_assoc]
theorem total_append : ∀ (a b : List Pt), total (a ++ b) = total a + total b
  | [], b => by show total b = 0 + total b; omega
  | p :: a, b => by show p.n + total (a ++ b) = p.n + total a + total b; rw [total_append a b]; omega
theorem take_part {ps : List Pt} {k : Nat} {p : Pt} (h : ps[k]? = some p) : ps.take (k + 1) = ps.take k ++ [p] := by
  rw [List.take_add_one, h]; rfl
theorem joined_take {ps : List Pt} {k : Nat} {p : Pt} (h : ps[k]? = some p) : joined (ps.take (k + 1)) = joined (ps.take k) ++ p.bs := by
  rw [take_part h, joined_append]; show _ ++ (p.bs ++ []) = _; rw [List.append_nil]
theorem total_take_le (ps : List Pt) (k : Nat) : total (ps.take k) ≤ total ps := by
  have := total_append (ps.take k) (ps.drop k)
  rw [List.take_append_drop] at this; omega
theorem total_take {ps : List Pt} {k : Nat} {p : Pt} (h : ps[k]? = some p) : total (ps.take (k + 1)) = total (ps.take k) + p.n := by
  rw [take_part h, total_append]; show _ + (p.n + 0) = _; omega
theorem joined_lt {w : World} {g : Nat} {ps : List Pt} (h : Parts w g ps) : ∀ k, ∀ j, gt (joined (ps.take k)) j < 256
  | 0 => fun j => by rw [List.take_zero, show joined [] = [] from rfl, gt_ge _ _ (by simp)]; omega
  | k + 1 => by
    cases hk : ps[k]? with
    | none =>
      have : ps.length ≤ k := by simpa using hk
      intro j
      have := joined_lt h k j
      rwa [List.take_of_length_le (by omega)] at this ⊢
    | some p => rw [joined_take hk]; exact gt_append_lt (joined_lt h k) (h k p hk).2.1.1
theorem joined_len {w : World} {g : Nat} {ps : List Pt} (h : Parts w g ps) : ∀ k, (joined (ps.take k)).length = total (ps.take k)
  | 0 => by rw [List.take_zero]; rfl
  | k + 1 => by
    cases hk : ps[k]? with
    | none =>
      have : ps.length ≤ k := by simpa using hk
      have := joined_len h k
      rwa [List.take_of_length_le (by omega)] at this ⊢
    | some p => rw [joined_take hk, total_take hk, List.length_append, joined_len h k, (h k p hk).2.2.1]
theorem rn_of_row {w : World} {g q : Nat} {ws : List Nat} (h : w.rowIs g 35 64 (wordRow .u8 ws)) (ho : Ok 256 64 ws) (hne : g ≠ q) : Rn w q (some ⟨g, 0, none⟩) ws := by
  have hlt := h.lt
  refine ⟨ho.2, fun _ => ⟨_, rfl, hne, hlt, fun j hj => ?_⟩⟩
  have ha : (⟨g, 0, none⟩ : Addr).add j = ⟨g, j, none⟩ := by unfold Addr.add; split <;> simp_all
  rw [ha, h.cell (by rw [ho.1] at hj; exact hj)]; rfl
theorem xor_bits8 {a d : Nat} (h : a < 256) (h' : d < 256) : bits .xor .u8 (a : Int) (d : Int) = ((a ^^^ d : Nat) : Int) := u8_xor_nat _ _ h h'
theorem row_boxed (w : World) (k : List Nat) (h : k.length = 64) : (w.alloc (.cells (bcells k).toArray 35)).rowIs w.heap.size 35 64 (wordRow .u8 k) :=
  rowIs_words (k := .u8) (heap_alloc_last w _) h

set_option maxHeartbeats 1000000 in
set_option maxRecDepth 100000 in
theorem bsum_any (k : List Nat) (m : Nat) (ps : List Pt) (g N cap : Nat) (w : World) (hT : Tables w) (hk : Ok 256 64 k) (hm : m < 256) (hP : Parts w g ps) (hN : ps.length = N) (hNm : N ≤ 1000) (htot : total ps ≤ 1000000) :
    Calls Tryd.prog 29 #[.agg (bcells k).toArray, .int .u8 (m : Nat), .slice (some ⟨g, 0, none⟩) N cap] w (Summed w (sum (xored k m ++ joined ps))) := by
  have h2 := hT.lt
  have HT := Lib.hid hT; have HK := Lib.hid hk; have HP := Lib.hid hP; have HN := Lib.hid (fun _ : Unit => hN); clear hT hk hP hN
  have HR0 := Lib.hid (row_boxed w k HK.out.1)
  have HB0 := Lib.hid ((Below.refl w.heap.size w).alloc (Nat.le_refl _) (.cells (bcells k).toArray 35))
  generalize hX : sum (xored k m ++ joined ps) = X
  have HX := Lib.hid (fun _ : Unit => hX); clear hX
  go_enter Tryd.func29, Tryd.ntmps29
  go_wp2_with fail
  generalize w.alloc (.cells (bcells k).toArray 35) = W0 at *
  go_loopw [11] (fun i W => ∃ j : Nat, j ≤ 64 ∧ i = .int .i64 j ∧ Hid (W.rowIs w.heap.size 35 64 (wordRow .u8 (xorTo k m j))) ∧ Hid (Below w.heap.size w W)) (fun i _ => 64 - (intOf i).toNat)
  case atStart => exact ⟨0, by omega, rfl, Lib.hid (by rw [xorTo_zero HK.out]; exact HR0.out), HB0⟩
  case round =>
    obtain ⟨j, hj, rfl, HR1, HB1⟩ := hrel
    by_cases hj64 : j < 64
    · have c0 := HR1.out.cell (i := j) hj64
      have f0 := HR1.out.frozen j
      simp only [wordRow, gt_xorTo hj64] at c0
      have hx := xor_bits8 (HK.out.2 j) hm
      have yj : (j : Int) < 64 := by omega
      go_wp2
      go_roundw
      case rel => exact ⟨j + 1, by omega, by go_num, Lib.hid (by rw [← xorTo_succ hj64]; exact row_set HR1.out (tab_len _ _) j _ hj64), Lib.hid (HB1.out.setCell (Nat.le_refl _) _)⟩
      case measure => simp [intOf]; omega
    · obtain rfl : j = 64 := by omega
      have HR2 := Lib.hid (show wr.rowIs w.heap.size 35 64 (wordRow .u8 (xored k m)) from HR1.out)
      have hs1 := HR2.out.lt
      go_wp2_with fail
      refine (new_any _ (HT.out.below HB1.out h2)).mono ?_
      rintro e' w1 ⟨rfl, hS, hB, hz⟩
      have HS1 := Lib.hid hS; have HBn := Lib.hid hB; have HB2 := Lib.hid (HB1.out.trans (hB.mono HB1.out.size)); clear hS hB
      have HR3 := Lib.hid (HR2.out.of_block (HBn.out.block _ hs1))
      have HOX := Lib.hid (ok_xored HK.out hm)
      generalize wr.heap.size = x at *
      go_wp2_with fail
      refine (write_any x start (some ⟨w.heap.size, 0, none⟩) (xored k m) 64 64 _ HS1.out good_start (HT.out.below HB2.out h2) (by omega) (rn_of_row HR3.out HOX.out (by omega)) HOX.out.1 (by omega) (by omega) (by show 0 + 64 ≤ _; omega)).mono ?_
      rintro e' w2 ⟨rfl, hS2, hG2⟩
      have HS2 := Lib.hid hS2; have HB3 := Lib.hid (below_of_only HB2.out hG2 (by omega)); clear hS2 hG2
      have HG2 := Lib.hid (good_takeAll (xored k m) good_start HOX.out.2)
      go_wp2
      go_loopw [27] (fun i W => ∃ j : Nat, j ≤ N ∧ i = .int .i64 j ∧ Hid (HsAt W x (takeAll start (xored k m ++ joined (ps.take j)))) ∧ Hid (Below w.heap.size w W)) (fun i _ => N - (intOf i).toNat)
      case atStart => exact ⟨0, by omega, rfl, Lib.hid (by rw [List.take_zero, show joined [] = [] from rfl, List.append_nil]; exact HS2.out), HB3⟩
      case round =>
        obtain ⟨j, hj, rfl, HS4, HB4⟩ := hrel
        have HP4 := Lib.hid (HP.out.below HB4.out)
        have hlen : (takeAll start (xored k m ++ joined (ps.take j))).n = 64 + total (ps.take j) := by
          rw [takeAll_n, List.length_append, xored_len, joined_len HP4.out]; show 0 + _ = _; omega
        have htj := total_take_le ps j
        have HGd := Lib.hid (good_takeAll (xored k m ++ joined (ps.take j)) good_start (gt_append_lt HOX.out.2 (joined_lt HP4.out j)))
        have hx4 := HS4.out.lt
        by_cases hjN : j < N
        · obtain ⟨p, hp⟩ : ∃ p, ps[j]? = some p := ⟨_, List.getElem?_eq_getElem (by rw [HN.out ()]; exact hjN)⟩
          have htj1 := total_take_le ps (j + 1)
          rw [total_take hp] at htj1
          obtain ⟨c0, hR, hl, hnc, hc⟩ := HP4.out j p hp
          have HJ := Lib.hid (fun _ : Unit => joined_take hp)
          obtain ⟨A, n, c, bs⟩ := p
          dsimp only at c0 hR hl hnc hc htj1 HJ
          have HRp := Lib.hid ((HP.out j _ hp).2.1); dsimp only at HRp
          have HRb := Lib.hid hR; have HL := Lib.hid (fun _ : Unit => hl); clear hR hl hp
          obtain ⟨s1, hs1e⟩ : ∃ s1, takeAll start (xored k m ++ joined (ps.take j)) = s1 := ⟨_, rfl⟩
          have HS1e := Lib.hid (fun _ : Unit => hs1e)
          rw [hs1e] at HS4 hlen HGd
          clear hs1e
          have yj : (j : Int) < (N : Int) := by omega
          go_wp2_with fail
          refine (write_any x s1 A bs n c _ HS4.out HGd.out (HT.out.below HB4.out h2) (by omega) ((HRp.out.below HB4.out).apart (by omega) HB4.out.size) (HL.out ()) hnc hc (by omega)).mono ?_
          rintro e' w4 ⟨rfl, hS5, hG5⟩
          have HS5 := Lib.hid hS5; have HB5 := Lib.hid (below_of_only HB4.out hG5 (by omega)); clear hS5 hG5
          go_wp2
          go_roundw
          case rel => exact ⟨j + 1, by omega, by go_num, Lib.hid (by rw [HJ.out (), ← List.append_assoc, takeAll_append, HS1e.out ()]; exact HS5.out), HB5⟩
          case measure => simp [intOf]; omega
        · obtain rfl : j = N := by omega
          have HE : Hid (Unit → sumOf (takeAll start (xored k m ++ joined (ps.take j))) = X) := Lib.hid fun _ => by rw [List.take_of_length_le (by rw [HN.out ()]; omega), ← HX.out ()]; rfl
          generalize takeAll start (xored k m ++ joined (ps.take j)) = s1 at *
          go_wp2_with fail
          refine (hsum_any x s1 _ HS4.out HGd.out (HT.out.below HB4.out h2) (by omega)).mono ?_
          rintro e' w4 ⟨h, cp, rfl, hown, hB5⟩
          have HOWN := Lib.hid hown; have HB5 := Lib.hid (HB4.out.trans (hB5.mono HB4.out.size)); clear hown hB5
          go_wp2
          go_ret
          refine ⟨h, cp, rfl, ?_, HB5.out⟩
          rw [← HE.out ()]
          exact own_lower HOWN.out HB4.out.size
end Go.Proofs.YtfcnhendebjjeaaDoor.Sha
