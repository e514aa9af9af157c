/- Walks: lengthBytes. -/
import Derived.Test.YthjoafldndgahaaDoorWrWalkB
namespace Go.Proofs.YthjoafldndgahaaDoor.Wr
set_option linter.all false
open Go.RowKit

theorem Tables.cells {w : World} (h : Tables w) (i : Nat) (v : Value) (hv : classCells[i]? = some v) : w.cell? ⟨0, i, none⟩ = some v := by
  obtain ⟨t, fr, h⟩ := h
  rw [cell_of_row w _ i _ t fr h, hv]

theorem class0 (W : World) : (Instr.index 60 (.agg #[.int .i64 1, .int .u8 64, .int .i64 0, .int .i64 64, .int .i64 2, .int .u8 128, .int .i64 16384, .int .i64 16384, .int .i64 4, .int .u8 192, .int .i64 2147483648, .int .i64 1073741824]) (.int .i64 0)).run Tryd.prog W = .ok (.agg #[.int .i64 1, .int .u8 64, .int .i64 0, .int .i64 64]) W := by kernel_rfl
theorem class1 (W : World) : (Instr.index 60 (.agg #[.int .i64 1, .int .u8 64, .int .i64 0, .int .i64 64, .int .i64 2, .int .u8 128, .int .i64 16384, .int .i64 16384, .int .i64 4, .int .u8 192, .int .i64 2147483648, .int .i64 1073741824]) (.int .i64 1)).run Tryd.prog W = .ok (.agg #[.int .i64 2, .int .u8 128, .int .i64 16384, .int .i64 16384]) W := by kernel_rfl
theorem class2 (W : World) : (Instr.index 60 (.agg #[.int .i64 1, .int .u8 64, .int .i64 0, .int .i64 64, .int .i64 2, .int .u8 128, .int .i64 16384, .int .i64 16384, .int .i64 4, .int .u8 192, .int .i64 2147483648, .int .i64 1073741824]) (.int .i64 2)).run Tryd.prog W = .ok (.agg #[.int .i64 4, .int .u8 192, .int .i64 2147483648, .int .i64 1073741824]) W := by kernel_rfl
theorem New.mono {lo lo' : Nat} {w : World} (h : lo' ≤ lo) : ∀ b, New lo w b → New lo' w b := fun b hb => ⟨Nat.le_trans h hb.1, hb.2⟩
theorem Told.up {bs : List Nat} {w w1 w' : World} {e : Ending} (h : Told bs w1 e w') (hb : Below w.heap.size w w1) : Told bs w e w' := by
  obtain ⟨A, n, c, rfl, ht, hb'⟩ := h
  exact ⟨A, n, c, rfl, ht.mono (New.mono hb.size), hb.trans (hb'.mono hb.size)⟩
set_option maxHeartbeats 1000000 in
set_option maxRecDepth 100000 in
theorem lengthBytes_any (n : Nat) (w : World) (hT : Tables w) (hn : n ≤ 1048576) (r : List Nat) (hr : Hid (lenB n = r)) :
    Calls Tryd.prog 29 #[.int .i64 n] w (Told r w) := by
  have c0 : w.cell? ⟨0, 0, none⟩ = some (.int .i64 1) := hT.cells 0 _ rfl
  have c1 : w.cell? ⟨0, 1, none⟩ = some (.int .u8 64) := hT.cells 1 _ rfl
  have c2 : w.cell? ⟨0, 2, none⟩ = some (.int .i64 0) := hT.cells 2 _ rfl
  have c3 : w.cell? ⟨0, 3, none⟩ = some (.int .i64 64) := hT.cells 3 _ rfl
  have c4 : w.cell? ⟨0, 4, none⟩ = some (.int .i64 2) := hT.cells 4 _ rfl
  have c5 : w.cell? ⟨0, 5, none⟩ = some (.int .u8 128) := hT.cells 5 _ rfl
  have c6 : w.cell? ⟨0, 6, none⟩ = some (.int .i64 16384) := hT.cells 6 _ rfl
  have c7 : w.cell? ⟨0, 7, none⟩ = some (.int .i64 16384) := hT.cells 7 _ rfl
  have c8 : w.cell? ⟨0, 8, none⟩ = some (.int .i64 4) := hT.cells 8 _ rfl
  have c9 : w.cell? ⟨0, 9, none⟩ = some (.int .u8 192) := hT.cells 9 _ rfl
  have c10 : w.cell? ⟨0, 10, none⟩ = some (.int .i64 2147483648) := hT.cells 10 _ rfl
  have c11 : w.cell? ⟨0, 11, none⟩ = some (.int .i64 1073741824) := hT.cells 11 _ rfl
  go_enter Tryd.func29, Tryd.ntmps29
  go_wp2
  clear c0 c1 c2 c3 c4 c5 c6 c7 c8 c9 c10 c11
  go_loopw [6] (fun i W => ∃ k : Nat, i = .int .i64 k ∧ ((k = 0) ∨ (k = 1 ∧ 64 ≤ n) ∨ (k = 2 ∧ 16384 ≤ n)) ∧ Hid (Below w.heap.size w W)) (fun i _ => 3 - (intOf i).toNat)
  case atStart => exact ⟨0, rfl, .inl rfl, Lib.hid (Below.refl _ _)⟩
  case round =>
    obtain ⟨k, rfl, hk, HB⟩ := hrel
    rcases hk with rfl | ⟨rfl, hk⟩ | ⟨rfl, hk⟩
    · by_cases h1 : n < 64
      · have y1 : (n : Int) < 64 := by omega
        have hix := class0
        have HL : Hid (be 1 (n + 0) = r) := Lib.hid (by rw [← hr.out]; unfold lenB szB; rw [if_pos h1]; rfl)
        have HB1 := Lib.hid (HB.out.alloc HB.out.size (.cells #[.int .i64 1, .int .u8 64, .int .i64 0, .int .i64 64] 59))
        rw [Nat.add_zero] at HL
        go_wp2_with fail
        refine (number_ok n 1 _ (by omega) (by show _ < 256; omega) (by omega)).mono ?_
        rintro e' w2 hTold
        obtain ⟨A2, n2, c2, rfl, hX2, hB2⟩ := hTold.up HB1.out
        have HX2 := Lib.hid hX2; have HB2 := Lib.hid hB2; clear hX2 hB2 hTold
        go_wp2
        go_ret
        exact ⟨_, _, _, rfl, by rw [← HL.out]; exact HX2.out, HB2.out⟩
      · have y1 : ¬ (n : Int) < 64 := by omega
        have hix := class0
        have HB1 := Lib.hid (HB.out.alloc HB.out.size (.cells #[.int .i64 1, .int .u8 64, .int .i64 0, .int .i64 64] 59))
        go_wp2
        go_roundw
        case rel => exact ⟨1, by go_num, .inr (.inl ⟨rfl, by omega⟩), HB1⟩
        case measure => simp [intOf]
    · by_cases h1 : n < 16384
      · have y1 : (n : Int) < 16384 := by omega
        have hix := class1
        have HL : Hid (be 2 (n + 16384) = r) := Lib.hid (by rw [← hr.out]; unfold lenB szB; rw [if_neg (by omega), if_pos h1]; rfl)
        have HB1 := Lib.hid (HB.out.alloc HB.out.size (.cells #[.int .i64 2, .int .u8 128, .int .i64 16384, .int .i64 16384] 59))
        obtain ⟨m, hm, hm'⟩ : ∃ m : Nat, n + 16384 = m ∧ (n : Int) + 16384 = (m : Int) := ⟨_, rfl, by omega⟩
        have hw : wrap64 ((n : Int) + 16384) = (m : Int) := by unfold wrap64; omega
        rw [hm] at HL
        go_wp2_with fail
        refine (number_ok m 2 _ (by omega) (by show _ < 65536; omega) (by omega)).mono ?_
        rintro e' w2 hTold
        obtain ⟨A2, n2, c2, rfl, hX2, hB2⟩ := hTold.up HB1.out
        have HX2 := Lib.hid hX2; have HB2 := Lib.hid hB2; clear hX2 hB2 hTold
        go_wp2
        go_ret
        exact ⟨_, _, _, rfl, by rw [← HL.out]; exact HX2.out, HB2.out⟩
      · have y1 : ¬ (n : Int) < 16384 := by omega
        have hix := class1
        have HB1 := Lib.hid (HB.out.alloc HB.out.size (.cells #[.int .i64 2, .int .u8 128, .int .i64 16384, .int .i64 16384] 59))
        go_wp2
        go_roundw
        case rel => exact ⟨2, by go_num, .inr (.inr ⟨rfl, by omega⟩), HB1⟩
        case measure => simp [intOf]
    · have h1 : n < 1073741824 := by omega
      · have y1 : (n : Int) < 1073741824 := by omega
        have hix := class2
        have HL : Hid (be 4 (n + 2147483648) = r) := Lib.hid (by rw [← hr.out]; unfold lenB szB; rw [if_neg (by omega), if_neg (by omega)]; rfl)
        have HB1 := Lib.hid (HB.out.alloc HB.out.size (.cells #[.int .i64 4, .int .u8 192, .int .i64 2147483648, .int .i64 1073741824] 59))
        obtain ⟨m, hm, hm'⟩ : ∃ m : Nat, n + 2147483648 = m ∧ (n : Int) + 2147483648 = (m : Int) := ⟨_, rfl, by omega⟩
        have hw : wrap64 ((n : Int) + 2147483648) = (m : Int) := by unfold wrap64; omega
        rw [hm] at HL
        go_wp2_with fail
        refine (number_ok m 4 _ (by omega) (by show _ < 4294967296; omega) (by omega)).mono ?_
        rintro e' w2 hTold
        obtain ⟨A2, n2, c2, rfl, hX2, hB2⟩ := hTold.up HB1.out
        have HX2 := Lib.hid hX2; have HB2 := Lib.hid hB2; clear hX2 hB2 hTold
        go_wp2
        go_ret
        exact ⟨_, _, _, rfl, by rw [← HL.out]; exact HX2.out, HB2.out⟩
end Go.Proofs.YthjoafldndgahaaDoor.Wr
