/- Walks: Read, atOnce, the four functions. -/
import Derived.Test.YtdkhiooiakdecaaDoorRKecWalkG
namespace Go.Proofs.YtdkhiooiakdecaaDoorR.Kec
set_option linter.all false
open Go.RowKit

def byteRow (bs : List Nat) : Nat → Value := fun j => .int .u8 (gt bs j : Nat)
def gaveRow (r : Nat) (s : Nat × List Nat) (k : Nat) : Nat → Value := fun j => if j < k then .int .u8 (outAt r s j : Nat) else .int .u8 0

set_option maxHeartbeats 1000000 in
set_option maxRecDepth 100000 in
theorem read_bad (g : Nat) (n : Int) (w : World) (h : n < 0 ∨ 65536 < n) :
    Calls Tryd.prog 40 #[.pointer (some ⟨g, 0, none⟩), .int .i64 n] w fun e' w' => e' = .returned (.slice none 0 0) ∧ w = w' := by
  by_cases h1 : n < 0
  · go_enter Tryd.func40, Tryd.ntmps40
    go_wp2
    go_ret
    exact ⟨rfl, rfl⟩
  · have h2 : 65536 < n := by omega
    go_enter Tryd.func40, Tryd.ntmps40
    go_wp2
    go_ret
    exact ⟨rfl, rfl⟩

theorem byteAt_same (b t n o i : Nat) (f : Nat → Value) (ws : List Nat) (w : World) (hi : i < 200) (hS : St w b t n f o ws) :
    Calls Tryd.prog 51 #[.pointer (some ⟨b, o, none⟩), .int .i64 i] w fun e w' => e = .returned (.int .u8 (byteAt ws i : Nat)) ∧ w' = w :=
  (byteAt_any b t n o i f ws w hi hS).mono fun _ _ ⟨h, h'⟩ => ⟨h, h'.symm⟩
/-- what a Read leaves: the sponge, and n bytes in a new block -/
def Gave (w : World) (g r e : Nat) (s : Nat × List Nat) (n : Nat) (e' : Ending) (w' : World) : Prop :=
  ∃ h, e' = .returned (.slice (some ⟨h, 0, none⟩) n n) ∧ w.heap.size ≤ h ∧ w'.rowIs h 5 n (byteRow (outs r s n)) ∧ Sp w' g r e true (after r s n) ∧ w.grownBy w' (some g)

set_option maxHeartbeats 1000000 in
set_option maxRecDepth 100000 in
theorem read_gives (g r e : Nat) (s : Nat × List Nat) (n : Nat) (w : World) (hS : Sp w g r e true s) (hG : Good r s) (hr : r ≤ 192) (hT : Tables w) (hb : 3 ≤ g) (hn : n ≤ 65536) :
    Calls Tryd.prog 40 #[.pointer (some ⟨g, 0, none⟩), .int .i64 n] w (Gave w g r e s n) := by
  have hlt : g < w.heap.size := hS.2.lt
  have c0 := hS.gives
  have h1 : ¬ ((n : Int) < 0) := by omega
  have h2 : ¬ (65536 < (n : Int)) := by omega
  have HS := Lib.hid hS; have HG := Lib.hid hG; have HT := Lib.hid hT; clear hS hG hT
  have hmk := fun W => run_make_row' (P := Tryd.prog) 22 5 (.int .u8 0) 1 Tryd.underlying22 (by kernel_rfl) rfl .i64 .i64 n (by omega) (by omega) W
  go_enter Tryd.func40, Tryd.ntmps40
  go_wp2
  go_loopw [24] (fun i W => ∃ k : Nat, k ≤ n ∧ i = .int .i64 k ∧ Hid (Sp W g r e true (after r s k)) ∧ Hid (W.rowIs w.heap.size 5 n (gaveRow r s k)) ∧ Hid (w.grownBy W (some g))) (fun i _ => n - (intOf i).toNat)
  case atStart =>
    refine ⟨0, by omega, rfl, Lib.hid (HS.out.alloc _), Lib.hid ((World.rowIs_made w (.int .u8 0) n 5).congr fun i _ => ?_), Lib.hid (World.grownBy_alloc _ _ _)⟩
    unfold gaveRow; rw [if_neg (by omega)]
  case round =>
    obtain ⟨k, hk, rfl, HS1, HR1, HG1⟩ := hrel
    by_cases hkn : k < n
    · have hgood := good_after HG.out k
      have hst : after r s (k + 1) = stepAt r (after r s k) := rfl
      have hout : outAt r s k = byteAt (after r s k).2 (after r s k).1 := rfl
      generalize after r s k = s1 at *
      obtain ⟨a, ws⟩ := s1
      have ha : a < r := hgood.1
      have HGD := Lib.hid hgood; have HST := Lib.hid hst; have HOUT := Lib.hid hout; clear hgood hst hout
      have c1 := HS1.out.at_
      dsimp only at c1
      have d0 := HR1.out.cell hkn
      have d1 := HR1.out.frozen k
      have HT1 := Lib.hid (HT.out.grown HG1.out hb)
      go_wp2
      refine wp_region_still_tail 10 (by kernel_rfl) (by kernel_rfl) ?_
      simp only [List.take_succ_cons, List.take_zero, List.drop_succ_cons, List.drop_zero]
      repeat still_step
      still_call (byteAt_same g 64 29 2 a (spF r e a true) ws _ (by omega) HS1.out.drew)
      refine wpStill_nil ?_
      change wpList _ _ _ _ _ wr.drew
      go_wp2_with fail
      have HS2 : Hid (Sp (wr.setCell ⟨w.heap.size, k, none⟩ (.int .u8 (byteAt ws a : Nat))).drew g r e true (a, ws)) := Lib.hid (HS1.out.far (by show g ≠ w.heap.size; omega) _).drew
      have HG2 := Lib.hid (only_drew (only_set HG1.out (p := ⟨w.heap.size, k, none⟩) (.inr (Nat.le_refl _)) (.int .u8 (byteAt ws a : Nat))))
      have HR2 : Hid ((wr.setCell ⟨w.heap.size, k, none⟩ (.int .u8 (byteAt ws a : Nat))).drew.rowIs w.heap.size 5 n (gaveRow r s (k + 1))) := Lib.hid (((HR1.out.set k (.int .u8 (byteAt ws a : Nat))).drew).congr fun i _ => by
        unfold gaveRow
        by_cases e : i = k
        · subst e; rw [if_pos rfl, if_pos (by omega), HOUT.out]
        · rw [if_neg e]
          by_cases h : i < k
          · rw [if_pos h, if_pos (by omega)]
          · rw [if_neg h, if_neg (by omega)])
      have HT2 := Lib.hid (HT.out.grown HG2.out hb)
      refine (goOn_any g r e true (a, ws) _ HS2.out HGD.out hr HT2.out hb).mono ?_
      rintro e' w2 ⟨rfl, hS3, hG3⟩
      have HS3 := Lib.hid hS3; have HG3 := Lib.hid (only_then HG2.out hG3 (.inl rfl))
      have HR3 := Lib.hid (HR2.out.of_block (hG3.block w.heap.size HR2.out.lt (by intro e; injection e; omega)))
      clear hS3 hG3
      go_wp2
      go_roundw
      case rel => exact ⟨k + 1, by omega, by go_num, Lib.hid (by rw [HST.out]; exact HS3.out), HR3, HG3⟩
      case measure => simp [intOf]; omega
    · obtain rfl : k = n := by omega
      go_wp2
      go_ret
      refine ⟨w.heap.size, rfl, Nat.le_refl _, HR1.out.congr fun i hi => ?_, HS1.out, HG1.out⟩
      unfold gaveRow byteRow
      rw [if_pos hi, gt_outs _ _ _ _ hi]

set_option maxHeartbeats 1000000 in
set_option maxRecDepth 100000 in
theorem read_turns (g r e : Nat) (s : Nat × List Nat) (n : Nat) (w : World) (hS : Sp w g r e false s) (hG : Good r s) (hr0 : 0 < r) (hr : r ≤ 192) (he : e < 256) (hT : Tables w) (hb : 3 ≤ g) (hn : n ≤ 65536) :
    Calls Tryd.prog 40 #[.pointer (some ⟨g, 0, none⟩), .int .i64 n] w (Gave w g r e (turned r e s) n) := by
  have hlt : g < w.heap.size := hS.2.lt
  have c0 := hS.gives
  have h1 : ¬ ((n : Int) < 0) := by omega
  have h2 : ¬ (65536 < (n : Int)) := by omega
  have HS := Lib.hid hS; have HG0 := Lib.hid hG; have HT0 := Lib.hid hT; clear hS hG hT
  have hmk := fun W => run_make_row' (P := Tryd.prog) 22 5 (.int .u8 0) 1 Tryd.underlying22 (by kernel_rfl) rfl .i64 .i64 n (by omega) (by omega) W
  go_enter Tryd.func40, Tryd.ntmps40
  go_wp2_with fail
  refine (turn_any g r e s _ HS.out HG0.out hr0 hr he HT0.out hb).mono ?_
  rintro e' w0 ⟨rfl, hSt, hGt⟩
  have HSt := Lib.hid hSt; have HGt := Lib.hid hGt
  have HG := Lib.hid (good_turned e HG0.out hr0 hr)
  have HT := Lib.hid (HT0.out.grown hGt hb)
  have hsz := hGt.size
  clear hSt hGt c0
  generalize turned r e s = s0 at *
  go_wp2
  go_loopw [24] (fun i W => ∃ k : Nat, k ≤ n ∧ i = .int .i64 k ∧ Hid (Sp W g r e true (after r s0 k)) ∧ Hid (W.rowIs w0.heap.size 5 n (gaveRow r s0 k)) ∧ Hid (w0.grownBy W (some g))) (fun i _ => n - (intOf i).toNat)
  case atStart =>
    refine ⟨0, by omega, rfl, Lib.hid (HSt.out.alloc _), Lib.hid ((World.rowIs_made w0 (.int .u8 0) n 5).congr fun i _ => ?_), Lib.hid (World.grownBy_alloc _ _ _)⟩
    unfold gaveRow; rw [if_neg (by omega)]
  case round =>
    obtain ⟨k, hk, rfl, HS1, HR1, HG1⟩ := hrel
    by_cases hkn : k < n
    · have hgood := good_after HG.out k
      have hst : after r s0 (k + 1) = stepAt r (after r s0 k) := rfl
      have hout : outAt r s0 k = byteAt (after r s0 k).2 (after r s0 k).1 := rfl
      generalize after r s0 k = s1 at *
      obtain ⟨a, ws⟩ := s1
      have ha : a < r := hgood.1
      have HGD := Lib.hid hgood; have HST := Lib.hid hst; have HOUT := Lib.hid hout; clear hgood hst hout
      have c1 := HS1.out.at_
      dsimp only at c1
      have d0 := HR1.out.cell hkn
      have d1 := HR1.out.frozen k
      go_wp2
      refine wp_region_still_tail 10 (by kernel_rfl) (by kernel_rfl) ?_
      simp only [List.take_succ_cons, List.take_zero, List.drop_succ_cons, List.drop_zero]
      repeat still_step
      still_call (byteAt_same g 64 29 2 a (spF r e a true) ws _ (by omega) HS1.out.drew)
      refine wpStill_nil ?_
      change wpList _ _ _ _ _ wr.drew
      go_wp2_with fail
      have HS2 : Hid (Sp (wr.setCell ⟨w0.heap.size, k, none⟩ (.int .u8 (byteAt ws a : Nat))).drew g r e true (a, ws)) := Lib.hid (HS1.out.far (by show g ≠ w0.heap.size; omega) _).drew
      have HG2 := Lib.hid (only_drew (only_set HG1.out (p := ⟨w0.heap.size, k, none⟩) (.inr (Nat.le_refl _)) (.int .u8 (byteAt ws a : Nat))))
      have HR2 : Hid ((wr.setCell ⟨w0.heap.size, k, none⟩ (.int .u8 (byteAt ws a : Nat))).drew.rowIs w0.heap.size 5 n (gaveRow r s0 (k + 1))) := Lib.hid (((HR1.out.set k (.int .u8 (byteAt ws a : Nat))).drew).congr fun i _ => by
        unfold gaveRow
        by_cases e : i = k
        · subst e; rw [if_pos rfl, if_pos (by omega), HOUT.out]
        · rw [if_neg e]
          by_cases h : i < k
          · rw [if_pos h, if_pos (by omega)]
          · rw [if_neg h, if_neg (by omega)])
      have HT2 := Lib.hid (HT.out.grown HG2.out hb)
      refine (goOn_any g r e true (a, ws) _ HS2.out HGD.out hr HT2.out hb).mono ?_
      rintro e' w2 ⟨rfl, hS3, hG3⟩
      have HS3 := Lib.hid hS3; have HG3 := Lib.hid (only_then HG2.out hG3 (.inl rfl))
      have HR3 := Lib.hid (HR2.out.of_block (hG3.block w0.heap.size HR2.out.lt (by intro e; injection e; omega)))
      clear hS3 hG3
      go_wp2
      go_roundw
      case rel => exact ⟨k + 1, by omega, by go_num, Lib.hid (by rw [HST.out]; exact HS3.out), HR3, HG3⟩
      case measure => simp [intOf]; omega
    · obtain rfl : k = n := by omega
      go_wp2
      go_ret
      refine ⟨w0.heap.size, rfl, hsz, HR1.out.congr fun i hi => ?_, HS1.out, only_then HGt.out HG1.out (.inl rfl)⟩
      unfold gaveRow byteRow
      rw [if_pos hi, gt_outs _ _ _ _ hi]

end Go.Proofs.YtdkhiooiakdecaaDoorR.Kec
