/- The document's own: Number, GetNumber. The document's own: GetNumber. The document's own: length, Text. -/
import Derived.Test.YtophnoaneoeiaaaGreatDoorWrM1
import Derived.Test.YtophnoaneoeiaaaGreatDoorWrM2
namespace Go.Proofs.YtophnoaneoeiaaaGreatDoor.Wr
set_option linter.all false
open Go.RowKit

theorem be_take_succ (k n j : Nat) (h : j < k) : (be k n).take (j + 1) = (be k n).take j ++ [n / 256 ^ (k - 1 - j) % 256] := by
  rw [List.take_succ_eq_append_getElem (by rw [be_len]; exact h)]
  congr 2
  have := gt_be k n j h
  unfold gt at this
  rw [List.getD_eq_getElem?_getD, List.getElem?_eq_getElem (by rw [be_len]; exact h)] at this
  exact this
theorem byte_rd (w : World) (x : Nat) (z : Int) (hz : z = (x : Int)) (hx : x < 256) : Txt Any (w.alloc (.cells #[.int .u8 z] 5)) (some ⟨w.heap.size, 0, none⟩) 1 1 [x] := by
  subst hz
  refine ⟨⟨gt_lt_of_mem (by intro y hy; simp at hy; omega), fun _ => ⟨_, rfl, by simp, fun j hj => ?_⟩⟩, rfl, by omega, by omega, fun e => (by cases e), fun _ _ => True.intro⟩
  have hj0 : j = 0 := by simp at hj; exact hj
  subst hj0
  show (w.alloc (.cells #[.int .u8 (x : Int)] 5)).cell? ⟨w.heap.size, 0, none⟩ = _
  rw [cell_of_row _ _ 0 _ 5 (0, 0) (heap_alloc_last w _), gt_cons_zero]; rfl

set_option maxHeartbeats 2000000 in
set_option maxRecDepth 100000 in
theorem rnumber_1 (n : Nat) (w : World) (hn : n < 256) (r : List Nat) (hr : Hid (be 1 n = r)) :
    Calls Tryz.prog 47 #[.int .i64 n, .int .i64 1] w (Told r w) := by
  have y0 : ¬ (n : Int) < 0 := by omega
  have y1 : (n : Int) / 256 = 0 := by omega
  have y1' : (n : Int) / 2 ^ 8 = 0 := by rw [show ((2 : Int) ^ 8) = 256 from rfl]; omega
  have HN := Lib.hid hn; clear hn
  go_enter Tryz.func47, Tryz.ntmps47
  go_wp2
  go_loopw [5, 6] (fun v i W => ∃ (j m cC : Nat) (C : Option Addr) (y : Int), i = .int .i64 y ∧ v = .slice C m cC ∧ j ≤ 1 ∧ m = j ∧ y = 1 - 1 - (j : Int) ∧ Hid (W.ownsRow w.heap.size 5 1 (.slice C m cC) m (bcells ((be 1 n).take j))) ∧ Hid (Below w.heap.size w W)) (fun _ i _ => (intOf i + 1).toNat)
  case atStart => exact ⟨0, 0, 0, none, 0, rfl, rfl, by omega, rfl, by omega, Lib.hid ⟨rfl, .inl ⟨rfl, rfl⟩⟩, Lib.hid (Below.refl _ _)⟩
  case round =>
    obtain ⟨j, m, cC, C, y, rfl, rfl, hj, hm, hy, HO, HB⟩ := hrel
    by_cases hjk : j < 1
    · have hj' : j = 0 := by omega
      rcases hj' with rfl
      · obtain rfl : y = 0 := by omega
        subst hm
        have HSUC : Hid ((be 1 n).take 1 = (be 1 n).take 0 ++ [n % 256]) := Lib.hid (by rw [be_take_succ 1 n 0 (by omega)]; simp)
        obtain ⟨xs, hxs⟩ : ∃ xs, (be 1 n).take 0 = xs := ⟨_, rfl⟩
        rw [hxs] at HSUC HO
        obtain ⟨b, hb⟩ : ∃ b : Nat, n % 256 = b := ⟨_, rfl⟩
        rw [hb] at HSUC
        have HB3 := Lib.hid (show b < 256 by omega)
        have HBE := Lib.hid hb
        clear hxs hb hy hj hjk
        go_wp2_with (at_builtin; refine wpList_append_txt rfl (.tmp 42) (.tmp 48) rfl w.heap.size 0 1 1 _ xs [b] (some ⟨wr.heap.size, 0, none⟩) Any rfl rfl (HO.out.alloc _) (byte_rd wr b _ (by have := HBE.out; have := HN.out; omega) HB3.out) (by omega) (Nat.le_trans HB.out.size (by simp)) ?_)
        intro v' W2 hown hgrow hat
        obtain ⟨C', c', rfl⟩ := own_slice_of hown
        have HO3 := Lib.hid hown; have HB4 := Lib.hid (below_own (HB.out.alloc HB.out.size _) (HO.out.alloc _) (Nat.le_refl _) hgrow); clear hown hgrow hat
        go_wp2
        go_roundw
        case rel => exact ⟨1, 1, c', C', -1, by go_num, rfl, by omega, rfl, by omega, Lib.hid (by rw [HSUC.out]; exact HO3.out), HB4⟩
        case measure => simp [intOf]
    · obtain rfl : y = -1 := by omega
      obtain rfl : j = 1 := by omega
      subst hm
      clear hy hj hjk
      have HX := Lib.hid (show (be 1 n).take 1 = r by rw [← hr.out]; exact List.take_of_length_le (by rw [be_len]; omega))
      have HLT := Lib.hid (show ∀ j, gt r j < 256 by rw [← hr.out]; exact be_lt _ _)
      rw [HX.out] at HO
      obtain ⟨C', c', e, hX⟩ := Txt.of_own HO.out HLT.out
      injection e with e1 _ e3
      subst e1 e3
      have HXX := Lib.hid hX; clear hX
      go_wp2
      go_ret
      exact ⟨_, _, _, rfl, HXX.out, HB.out⟩
set_option maxHeartbeats 2000000 in
set_option maxRecDepth 100000 in
theorem rnumber_2 (n : Nat) (w : World) (hn : n < 65536) (r : List Nat) (hr : Hid (be 2 n = r)) :
    Calls Tryz.prog 47 #[.int .i64 n, .int .i64 2] w (Told r w) := by
  have y0 : ¬ (n : Int) < 0 := by omega
  have y1 : (n : Int) / 65536 = 0 := by omega
  have y1' : (n : Int) / 2 ^ 16 = 0 := by rw [show ((2 : Int) ^ 16) = 65536 from rfl]; omega
  have HN := Lib.hid hn; clear hn
  go_enter Tryz.func47, Tryz.ntmps47
  go_wp2
  go_loopw [5, 6] (fun v i W => ∃ (j m cC : Nat) (C : Option Addr) (y : Int), i = .int .i64 y ∧ v = .slice C m cC ∧ j ≤ 2 ∧ m = j ∧ y = 2 - 1 - (j : Int) ∧ Hid (W.ownsRow w.heap.size 5 1 (.slice C m cC) m (bcells ((be 2 n).take j))) ∧ Hid (Below w.heap.size w W)) (fun _ i _ => (intOf i + 1).toNat)
  case atStart => exact ⟨0, 0, 0, none, 1, rfl, rfl, by omega, rfl, by omega, Lib.hid ⟨rfl, .inl ⟨rfl, rfl⟩⟩, Lib.hid (Below.refl _ _)⟩
  case round =>
    obtain ⟨j, m, cC, C, y, rfl, rfl, hj, hm, hy, HO, HB⟩ := hrel
    by_cases hjk : j < 2
    · have hj' : j = 0 ∨ j = 1 := by omega
      rcases hj' with rfl | rfl
      · obtain rfl : y = 1 := by omega
        subst hm
        have HSUC : Hid ((be 2 n).take 1 = (be 2 n).take 0 ++ [n / 256 % 256]) := Lib.hid (by rw [be_take_succ 2 n 0 (by omega)])
        obtain ⟨xs, hxs⟩ : ∃ xs, (be 2 n).take 0 = xs := ⟨_, rfl⟩
        rw [hxs] at HSUC HO
        obtain ⟨b, hb⟩ : ∃ b : Nat, n / 256 % 256 = b := ⟨_, rfl⟩
        rw [hb] at HSUC
        have HB3 := Lib.hid (show b < 256 by omega)
        have HBE := Lib.hid hb
        clear hxs hb hy hj hjk
        go_wp2_with (at_builtin; refine wpList_append_txt rfl (.tmp 42) (.tmp 48) rfl w.heap.size 0 1 1 _ xs [b] (some ⟨wr.heap.size, 0, none⟩) Any rfl rfl (HO.out.alloc _) (byte_rd wr b _ (by have := HBE.out; have := HN.out; omega) HB3.out) (by omega) (Nat.le_trans HB.out.size (by simp)) ?_)
        intro v' W2 hown hgrow hat
        obtain ⟨C', c', rfl⟩ := own_slice_of hown
        have HO3 := Lib.hid hown; have HB4 := Lib.hid (below_own (HB.out.alloc HB.out.size _) (HO.out.alloc _) (Nat.le_refl _) hgrow); clear hown hgrow hat
        go_wp2
        go_roundw
        case rel => exact ⟨1, 1, c', C', 0, by go_num, rfl, by omega, rfl, by omega, Lib.hid (by rw [HSUC.out]; exact HO3.out), HB4⟩
        case measure => simp [intOf]
      · obtain rfl : y = 0 := by omega
        subst hm
        have HSUC : Hid ((be 2 n).take 2 = (be 2 n).take 1 ++ [n % 256]) := Lib.hid (by rw [be_take_succ 2 n 1 (by omega)]; simp)
        obtain ⟨xs, hxs⟩ : ∃ xs, (be 2 n).take 1 = xs := ⟨_, rfl⟩
        rw [hxs] at HSUC HO
        obtain ⟨b, hb⟩ : ∃ b : Nat, n % 256 = b := ⟨_, rfl⟩
        rw [hb] at HSUC
        have HB3 := Lib.hid (show b < 256 by omega)
        have HBE := Lib.hid hb
        clear hxs hb hy hj hjk
        go_wp2_with (at_builtin; refine wpList_append_txt rfl (.tmp 42) (.tmp 48) rfl w.heap.size 1 1 1 _ xs [b] (some ⟨wr.heap.size, 0, none⟩) Any rfl rfl (HO.out.alloc _) (byte_rd wr b _ (by have := HBE.out; have := HN.out; omega) HB3.out) (by omega) (Nat.le_trans HB.out.size (by simp)) ?_)
        intro v' W2 hown hgrow hat
        obtain ⟨C', c', rfl⟩ := own_slice_of hown
        have HO3 := Lib.hid hown; have HB4 := Lib.hid (below_own (HB.out.alloc HB.out.size _) (HO.out.alloc _) (Nat.le_refl _) hgrow); clear hown hgrow hat
        go_wp2
        go_roundw
        case rel => exact ⟨2, 2, c', C', -1, by go_num, rfl, by omega, rfl, by omega, Lib.hid (by rw [HSUC.out]; exact HO3.out), HB4⟩
        case measure => simp [intOf]
    · obtain rfl : y = -1 := by omega
      obtain rfl : j = 2 := by omega
      subst hm
      clear hy hj hjk
      have HX := Lib.hid (show (be 2 n).take 2 = r by rw [← hr.out]; exact List.take_of_length_le (by rw [be_len]; omega))
      have HLT := Lib.hid (show ∀ j, gt r j < 256 by rw [← hr.out]; exact be_lt _ _)
      rw [HX.out] at HO
      obtain ⟨C', c', e, hX⟩ := Txt.of_own HO.out HLT.out
      injection e with e1 _ e3
      subst e1 e3
      have HXX := Lib.hid hX; clear hX
      go_wp2
      go_ret
      exact ⟨_, _, _, rfl, HXX.out, HB.out⟩
set_option maxHeartbeats 2000000 in
set_option maxRecDepth 100000 in
theorem rnumber_4 (n : Nat) (w : World) (hn : n < 4294967296) (r : List Nat) (hr : Hid (be 4 n = r)) :
    Calls Tryz.prog 47 #[.int .i64 n, .int .i64 4] w (Told r w) := by
  have y0 : ¬ (n : Int) < 0 := by omega
  have y1 : (n : Int) / 4294967296 = 0 := by omega
  have y1' : (n : Int) / 2 ^ 32 = 0 := by rw [show ((2 : Int) ^ 32) = 4294967296 from rfl]; omega
  have HN := Lib.hid hn; clear hn
  go_enter Tryz.func47, Tryz.ntmps47
  go_wp2
  go_loopw [5, 6] (fun v i W => ∃ (j m cC : Nat) (C : Option Addr) (y : Int), i = .int .i64 y ∧ v = .slice C m cC ∧ j ≤ 4 ∧ m = j ∧ y = 4 - 1 - (j : Int) ∧ Hid (W.ownsRow w.heap.size 5 1 (.slice C m cC) m (bcells ((be 4 n).take j))) ∧ Hid (Below w.heap.size w W)) (fun _ i _ => (intOf i + 1).toNat)
  case atStart => exact ⟨0, 0, 0, none, 3, rfl, rfl, by omega, rfl, by omega, Lib.hid ⟨rfl, .inl ⟨rfl, rfl⟩⟩, Lib.hid (Below.refl _ _)⟩
  case round =>
    obtain ⟨j, m, cC, C, y, rfl, rfl, hj, hm, hy, HO, HB⟩ := hrel
    by_cases hjk : j < 4
    · have hj' : j = 0 ∨ j = 1 ∨ j = 2 ∨ j = 3 := by omega
      rcases hj' with rfl | rfl | rfl | rfl
      · obtain rfl : y = 3 := by omega
        subst hm
        have HSUC : Hid ((be 4 n).take 1 = (be 4 n).take 0 ++ [n / 16777216 % 256]) := Lib.hid (by rw [be_take_succ 4 n 0 (by omega)])
        obtain ⟨xs, hxs⟩ : ∃ xs, (be 4 n).take 0 = xs := ⟨_, rfl⟩
        rw [hxs] at HSUC HO
        obtain ⟨b, hb⟩ : ∃ b : Nat, n / 16777216 % 256 = b := ⟨_, rfl⟩
        rw [hb] at HSUC
        have HB3 := Lib.hid (show b < 256 by omega)
        have HBE := Lib.hid hb
        clear hxs hb hy hj hjk
        go_wp2_with (at_builtin; refine wpList_append_txt rfl (.tmp 42) (.tmp 48) rfl w.heap.size 0 1 1 _ xs [b] (some ⟨wr.heap.size, 0, none⟩) Any rfl rfl (HO.out.alloc _) (byte_rd wr b _ (by have := HBE.out; have := HN.out; omega) HB3.out) (by omega) (Nat.le_trans HB.out.size (by simp)) ?_)
        intro v' W2 hown hgrow hat
        obtain ⟨C', c', rfl⟩ := own_slice_of hown
        have HO3 := Lib.hid hown; have HB4 := Lib.hid (below_own (HB.out.alloc HB.out.size _) (HO.out.alloc _) (Nat.le_refl _) hgrow); clear hown hgrow hat
        go_wp2
        go_roundw
        case rel => exact ⟨1, 1, c', C', 2, by go_num, rfl, by omega, rfl, by omega, Lib.hid (by rw [HSUC.out]; exact HO3.out), HB4⟩
        case measure => simp [intOf]
      · obtain rfl : y = 2 := by omega
        subst hm
        have HSUC : Hid ((be 4 n).take 2 = (be 4 n).take 1 ++ [n / 65536 % 256]) := Lib.hid (by rw [be_take_succ 4 n 1 (by omega)])
        obtain ⟨xs, hxs⟩ : ∃ xs, (be 4 n).take 1 = xs := ⟨_, rfl⟩
        rw [hxs] at HSUC HO
        obtain ⟨b, hb⟩ : ∃ b : Nat, n / 65536 % 256 = b := ⟨_, rfl⟩
        rw [hb] at HSUC
        have HB3 := Lib.hid (show b < 256 by omega)
        have HBE := Lib.hid hb
        clear hxs hb hy hj hjk
        go_wp2_with (at_builtin; refine wpList_append_txt rfl (.tmp 42) (.tmp 48) rfl w.heap.size 1 1 1 _ xs [b] (some ⟨wr.heap.size, 0, none⟩) Any rfl rfl (HO.out.alloc _) (byte_rd wr b _ (by have := HBE.out; have := HN.out; omega) HB3.out) (by omega) (Nat.le_trans HB.out.size (by simp)) ?_)
        intro v' W2 hown hgrow hat
        obtain ⟨C', c', rfl⟩ := own_slice_of hown
        have HO3 := Lib.hid hown; have HB4 := Lib.hid (below_own (HB.out.alloc HB.out.size _) (HO.out.alloc _) (Nat.le_refl _) hgrow); clear hown hgrow hat
        go_wp2
        go_roundw
        case rel => exact ⟨2, 2, c', C', 1, by go_num, rfl, by omega, rfl, by omega, Lib.hid (by rw [HSUC.out]; exact HO3.out), HB4⟩
        case measure => simp [intOf]
      · obtain rfl : y = 1 := by omega
        subst hm
        have HSUC : Hid ((be 4 n).take 3 = (be 4 n).take 2 ++ [n / 256 % 256]) := Lib.hid (by rw [be_take_succ 4 n 2 (by omega)])
        obtain ⟨xs, hxs⟩ : ∃ xs, (be 4 n).take 2 = xs := ⟨_, rfl⟩
        rw [hxs] at HSUC HO
        obtain ⟨b, hb⟩ : ∃ b : Nat, n / 256 % 256 = b := ⟨_, rfl⟩
        rw [hb] at HSUC
        have HB3 := Lib.hid (show b < 256 by omega)
        have HBE := Lib.hid hb
        clear hxs hb hy hj hjk
        go_wp2_with (at_builtin; refine wpList_append_txt rfl (.tmp 42) (.tmp 48) rfl w.heap.size 2 1 1 _ xs [b] (some ⟨wr.heap.size, 0, none⟩) Any rfl rfl (HO.out.alloc _) (byte_rd wr b _ (by have := HBE.out; have := HN.out; omega) HB3.out) (by omega) (Nat.le_trans HB.out.size (by simp)) ?_)
        intro v' W2 hown hgrow hat
        obtain ⟨C', c', rfl⟩ := own_slice_of hown
        have HO3 := Lib.hid hown; have HB4 := Lib.hid (below_own (HB.out.alloc HB.out.size _) (HO.out.alloc _) (Nat.le_refl _) hgrow); clear hown hgrow hat
        go_wp2
        go_roundw
        case rel => exact ⟨3, 3, c', C', 0, by go_num, rfl, by omega, rfl, by omega, Lib.hid (by rw [HSUC.out]; exact HO3.out), HB4⟩
        case measure => simp [intOf]
      · obtain rfl : y = 0 := by omega
        subst hm
        have HSUC : Hid ((be 4 n).take 4 = (be 4 n).take 3 ++ [n % 256]) := Lib.hid (by rw [be_take_succ 4 n 3 (by omega)]; simp)
        obtain ⟨xs, hxs⟩ : ∃ xs, (be 4 n).take 3 = xs := ⟨_, rfl⟩
        rw [hxs] at HSUC HO
        obtain ⟨b, hb⟩ : ∃ b : Nat, n % 256 = b := ⟨_, rfl⟩
        rw [hb] at HSUC
        have HB3 := Lib.hid (show b < 256 by omega)
        have HBE := Lib.hid hb
        clear hxs hb hy hj hjk
        go_wp2_with (at_builtin; refine wpList_append_txt rfl (.tmp 42) (.tmp 48) rfl w.heap.size 3 1 1 _ xs [b] (some ⟨wr.heap.size, 0, none⟩) Any rfl rfl (HO.out.alloc _) (byte_rd wr b _ (by have := HBE.out; have := HN.out; omega) HB3.out) (by omega) (Nat.le_trans HB.out.size (by simp)) ?_)
        intro v' W2 hown hgrow hat
        obtain ⟨C', c', rfl⟩ := own_slice_of hown
        have HO3 := Lib.hid hown; have HB4 := Lib.hid (below_own (HB.out.alloc HB.out.size _) (HO.out.alloc _) (Nat.le_refl _) hgrow); clear hown hgrow hat
        go_wp2
        go_roundw
        case rel => exact ⟨4, 4, c', C', -1, by go_num, rfl, by omega, rfl, by omega, Lib.hid (by rw [HSUC.out]; exact HO3.out), HB4⟩
        case measure => simp [intOf]
    · obtain rfl : y = -1 := by omega
      obtain rfl : j = 4 := by omega
      subst hm
      clear hy hj hjk
      have HX := Lib.hid (show (be 4 n).take 4 = r by rw [← hr.out]; exact List.take_of_length_le (by rw [be_len]; omega))
      have HLT := Lib.hid (show ∀ j, gt r j < 256 by rw [← hr.out]; exact be_lt _ _)
      rw [HX.out] at HO
      obtain ⟨C', c', e, hX⟩ := Txt.of_own HO.out HLT.out
      injection e with e1 _ e3
      subst e1 e3
      have HXX := Lib.hid hX; clear hX
      go_wp2
      go_ret
      exact ⟨_, _, _, rfl, HXX.out, HB.out⟩
set_option maxHeartbeats 2000000 in
set_option maxRecDepth 100000 in
theorem rnumber_8 (n : Nat) (w : World) (hn : n < 9223372036854775808) (r : List Nat) (hr : Hid (be 8 n = r)) :
    Calls Tryz.prog 47 #[.int .i64 n, .int .i64 8] w (Told r w) := by
  have y0 : ¬ (n : Int) < 0 := by omega
  have HN := Lib.hid hn; clear hn
  go_enter Tryz.func47, Tryz.ntmps47
  go_wp2
  go_loopw [5, 6] (fun v i W => ∃ (j m cC : Nat) (C : Option Addr) (y : Int), i = .int .i64 y ∧ v = .slice C m cC ∧ j ≤ 8 ∧ m = j ∧ y = 8 - 1 - (j : Int) ∧ Hid (W.ownsRow w.heap.size 5 1 (.slice C m cC) m (bcells ((be 8 n).take j))) ∧ Hid (Below w.heap.size w W)) (fun _ i _ => (intOf i + 1).toNat)
  case atStart => exact ⟨0, 0, 0, none, 7, rfl, rfl, by omega, rfl, by omega, Lib.hid ⟨rfl, .inl ⟨rfl, rfl⟩⟩, Lib.hid (Below.refl _ _)⟩
  case round =>
    obtain ⟨j, m, cC, C, y, rfl, rfl, hj, hm, hy, HO, HB⟩ := hrel
    by_cases hjk : j < 8
    · have hj' : j = 0 ∨ j = 1 ∨ j = 2 ∨ j = 3 ∨ j = 4 ∨ j = 5 ∨ j = 6 ∨ j = 7 := by omega
      rcases hj' with rfl | rfl | rfl | rfl | rfl | rfl | rfl | rfl
      · obtain rfl : y = 7 := by omega
        subst hm
        have HSUC : Hid ((be 8 n).take 1 = (be 8 n).take 0 ++ [n / 72057594037927936 % 256]) := Lib.hid (by rw [be_take_succ 8 n 0 (by omega)])
        obtain ⟨xs, hxs⟩ : ∃ xs, (be 8 n).take 0 = xs := ⟨_, rfl⟩
        rw [hxs] at HSUC HO
        obtain ⟨b, hb⟩ : ∃ b : Nat, n / 72057594037927936 % 256 = b := ⟨_, rfl⟩
        rw [hb] at HSUC
        have HB3 := Lib.hid (show b < 256 by omega)
        have HBE := Lib.hid hb
        clear hxs hb hy hj hjk
        go_wp2_with (at_builtin; refine wpList_append_txt rfl (.tmp 42) (.tmp 48) rfl w.heap.size 0 1 1 _ xs [b] (some ⟨wr.heap.size, 0, none⟩) Any rfl rfl (HO.out.alloc _) (byte_rd wr b _ (by have := HBE.out; have := HN.out; omega) HB3.out) (by omega) (Nat.le_trans HB.out.size (by simp)) ?_)
        intro v' W2 hown hgrow hat
        obtain ⟨C', c', rfl⟩ := own_slice_of hown
        have HO3 := Lib.hid hown; have HB4 := Lib.hid (below_own (HB.out.alloc HB.out.size _) (HO.out.alloc _) (Nat.le_refl _) hgrow); clear hown hgrow hat
        go_wp2
        go_roundw
        case rel => exact ⟨1, 1, c', C', 6, by go_num, rfl, by omega, rfl, by omega, Lib.hid (by rw [HSUC.out]; exact HO3.out), HB4⟩
        case measure => simp [intOf]
      · obtain rfl : y = 6 := by omega
        subst hm
        have HSUC : Hid ((be 8 n).take 2 = (be 8 n).take 1 ++ [n / 281474976710656 % 256]) := Lib.hid (by rw [be_take_succ 8 n 1 (by omega)])
        obtain ⟨xs, hxs⟩ : ∃ xs, (be 8 n).take 1 = xs := ⟨_, rfl⟩
        rw [hxs] at HSUC HO
        obtain ⟨b, hb⟩ : ∃ b : Nat, n / 281474976710656 % 256 = b := ⟨_, rfl⟩
        rw [hb] at HSUC
        have HB3 := Lib.hid (show b < 256 by omega)
        have HBE := Lib.hid hb
        clear hxs hb hy hj hjk
        go_wp2_with (at_builtin; refine wpList_append_txt rfl (.tmp 42) (.tmp 48) rfl w.heap.size 1 1 1 _ xs [b] (some ⟨wr.heap.size, 0, none⟩) Any rfl rfl (HO.out.alloc _) (byte_rd wr b _ (by have := HBE.out; have := HN.out; omega) HB3.out) (by omega) (Nat.le_trans HB.out.size (by simp)) ?_)
        intro v' W2 hown hgrow hat
        obtain ⟨C', c', rfl⟩ := own_slice_of hown
        have HO3 := Lib.hid hown; have HB4 := Lib.hid (below_own (HB.out.alloc HB.out.size _) (HO.out.alloc _) (Nat.le_refl _) hgrow); clear hown hgrow hat
        go_wp2
        go_roundw
        case rel => exact ⟨2, 2, c', C', 5, by go_num, rfl, by omega, rfl, by omega, Lib.hid (by rw [HSUC.out]; exact HO3.out), HB4⟩
        case measure => simp [intOf]
      · obtain rfl : y = 5 := by omega
        subst hm
        have HSUC : Hid ((be 8 n).take 3 = (be 8 n).take 2 ++ [n / 1099511627776 % 256]) := Lib.hid (by rw [be_take_succ 8 n 2 (by omega)])
        obtain ⟨xs, hxs⟩ : ∃ xs, (be 8 n).take 2 = xs := ⟨_, rfl⟩
        rw [hxs] at HSUC HO
        obtain ⟨b, hb⟩ : ∃ b : Nat, n / 1099511627776 % 256 = b := ⟨_, rfl⟩
        rw [hb] at HSUC
        have HB3 := Lib.hid (show b < 256 by omega)
        have HBE := Lib.hid hb
        clear hxs hb hy hj hjk
        go_wp2_with (at_builtin; refine wpList_append_txt rfl (.tmp 42) (.tmp 48) rfl w.heap.size 2 1 1 _ xs [b] (some ⟨wr.heap.size, 0, none⟩) Any rfl rfl (HO.out.alloc _) (byte_rd wr b _ (by have := HBE.out; have := HN.out; omega) HB3.out) (by omega) (Nat.le_trans HB.out.size (by simp)) ?_)
        intro v' W2 hown hgrow hat
        obtain ⟨C', c', rfl⟩ := own_slice_of hown
        have HO3 := Lib.hid hown; have HB4 := Lib.hid (below_own (HB.out.alloc HB.out.size _) (HO.out.alloc _) (Nat.le_refl _) hgrow); clear hown hgrow hat
        go_wp2
        go_roundw
        case rel => exact ⟨3, 3, c', C', 4, by go_num, rfl, by omega, rfl, by omega, Lib.hid (by rw [HSUC.out]; exact HO3.out), HB4⟩
        case measure => simp [intOf]
      · obtain rfl : y = 4 := by omega
        subst hm
        have HSUC : Hid ((be 8 n).take 4 = (be 8 n).take 3 ++ [n / 4294967296 % 256]) := Lib.hid (by rw [be_take_succ 8 n 3 (by omega)])
        obtain ⟨xs, hxs⟩ : ∃ xs, (be 8 n).take 3 = xs := ⟨_, rfl⟩
        rw [hxs] at HSUC HO
        obtain ⟨b, hb⟩ : ∃ b : Nat, n / 4294967296 % 256 = b := ⟨_, rfl⟩
        rw [hb] at HSUC
        have HB3 := Lib.hid (show b < 256 by omega)
        have HBE := Lib.hid hb
        clear hxs hb hy hj hjk
        go_wp2_with (at_builtin; refine wpList_append_txt rfl (.tmp 42) (.tmp 48) rfl w.heap.size 3 1 1 _ xs [b] (some ⟨wr.heap.size, 0, none⟩) Any rfl rfl (HO.out.alloc _) (byte_rd wr b _ (by have := HBE.out; have := HN.out; omega) HB3.out) (by omega) (Nat.le_trans HB.out.size (by simp)) ?_)
        intro v' W2 hown hgrow hat
        obtain ⟨C', c', rfl⟩ := own_slice_of hown
        have HO3 := Lib.hid hown; have HB4 := Lib.hid (below_own (HB.out.alloc HB.out.size _) (HO.out.alloc _) (Nat.le_refl _) hgrow); clear hown hgrow hat
        go_wp2
        go_roundw
        case rel => exact ⟨4, 4, c', C', 3, by go_num, rfl, by omega, rfl, by omega, Lib.hid (by rw [HSUC.out]; exact HO3.out), HB4⟩
        case measure => simp [intOf]
      · obtain rfl : y = 3 := by omega
        subst hm
        have HSUC : Hid ((be 8 n).take 5 = (be 8 n).take 4 ++ [n / 16777216 % 256]) := Lib.hid (by rw [be_take_succ 8 n 4 (by omega)])
        obtain ⟨xs, hxs⟩ : ∃ xs, (be 8 n).take 4 = xs := ⟨_, rfl⟩
        rw [hxs] at HSUC HO
        obtain ⟨b, hb⟩ : ∃ b : Nat, n / 16777216 % 256 = b := ⟨_, rfl⟩
        rw [hb] at HSUC
        have HB3 := Lib.hid (show b < 256 by omega)
        have HBE := Lib.hid hb
        clear hxs hb hy hj hjk
        go_wp2_with (at_builtin; refine wpList_append_txt rfl (.tmp 42) (.tmp 48) rfl w.heap.size 4 1 1 _ xs [b] (some ⟨wr.heap.size, 0, none⟩) Any rfl rfl (HO.out.alloc _) (byte_rd wr b _ (by have := HBE.out; have := HN.out; omega) HB3.out) (by omega) (Nat.le_trans HB.out.size (by simp)) ?_)
        intro v' W2 hown hgrow hat
        obtain ⟨C', c', rfl⟩ := own_slice_of hown
        have HO3 := Lib.hid hown; have HB4 := Lib.hid (below_own (HB.out.alloc HB.out.size _) (HO.out.alloc _) (Nat.le_refl _) hgrow); clear hown hgrow hat
        go_wp2
        go_roundw
        case rel => exact ⟨5, 5, c', C', 2, by go_num, rfl, by omega, rfl, by omega, Lib.hid (by rw [HSUC.out]; exact HO3.out), HB4⟩
        case measure => simp [intOf]
      · obtain rfl : y = 2 := by omega
        subst hm
        have HSUC : Hid ((be 8 n).take 6 = (be 8 n).take 5 ++ [n / 65536 % 256]) := Lib.hid (by rw [be_take_succ 8 n 5 (by omega)])
        obtain ⟨xs, hxs⟩ : ∃ xs, (be 8 n).take 5 = xs := ⟨_, rfl⟩
        rw [hxs] at HSUC HO
        obtain ⟨b, hb⟩ : ∃ b : Nat, n / 65536 % 256 = b := ⟨_, rfl⟩
        rw [hb] at HSUC
        have HB3 := Lib.hid (show b < 256 by omega)
        have HBE := Lib.hid hb
        clear hxs hb hy hj hjk
        go_wp2_with (at_builtin; refine wpList_append_txt rfl (.tmp 42) (.tmp 48) rfl w.heap.size 5 1 1 _ xs [b] (some ⟨wr.heap.size, 0, none⟩) Any rfl rfl (HO.out.alloc _) (byte_rd wr b _ (by have := HBE.out; have := HN.out; omega) HB3.out) (by omega) (Nat.le_trans HB.out.size (by simp)) ?_)
        intro v' W2 hown hgrow hat
        obtain ⟨C', c', rfl⟩ := own_slice_of hown
        have HO3 := Lib.hid hown; have HB4 := Lib.hid (below_own (HB.out.alloc HB.out.size _) (HO.out.alloc _) (Nat.le_refl _) hgrow); clear hown hgrow hat
        go_wp2
        go_roundw
        case rel => exact ⟨6, 6, c', C', 1, by go_num, rfl, by omega, rfl, by omega, Lib.hid (by rw [HSUC.out]; exact HO3.out), HB4⟩
        case measure => simp [intOf]
      · obtain rfl : y = 1 := by omega
        subst hm
        have HSUC : Hid ((be 8 n).take 7 = (be 8 n).take 6 ++ [n / 256 % 256]) := Lib.hid (by rw [be_take_succ 8 n 6 (by omega)])
        obtain ⟨xs, hxs⟩ : ∃ xs, (be 8 n).take 6 = xs := ⟨_, rfl⟩
        rw [hxs] at HSUC HO
        obtain ⟨b, hb⟩ : ∃ b : Nat, n / 256 % 256 = b := ⟨_, rfl⟩
        rw [hb] at HSUC
        have HB3 := Lib.hid (show b < 256 by omega)
        have HBE := Lib.hid hb
        clear hxs hb hy hj hjk
        go_wp2_with (at_builtin; refine wpList_append_txt rfl (.tmp 42) (.tmp 48) rfl w.heap.size 6 1 1 _ xs [b] (some ⟨wr.heap.size, 0, none⟩) Any rfl rfl (HO.out.alloc _) (byte_rd wr b _ (by have := HBE.out; have := HN.out; omega) HB3.out) (by omega) (Nat.le_trans HB.out.size (by simp)) ?_)
        intro v' W2 hown hgrow hat
        obtain ⟨C', c', rfl⟩ := own_slice_of hown
        have HO3 := Lib.hid hown; have HB4 := Lib.hid (below_own (HB.out.alloc HB.out.size _) (HO.out.alloc _) (Nat.le_refl _) hgrow); clear hown hgrow hat
        go_wp2
        go_roundw
        case rel => exact ⟨7, 7, c', C', 0, by go_num, rfl, by omega, rfl, by omega, Lib.hid (by rw [HSUC.out]; exact HO3.out), HB4⟩
        case measure => simp [intOf]
      · obtain rfl : y = 0 := by omega
        subst hm
        have HSUC : Hid ((be 8 n).take 8 = (be 8 n).take 7 ++ [n % 256]) := Lib.hid (by rw [be_take_succ 8 n 7 (by omega)]; simp)
        obtain ⟨xs, hxs⟩ : ∃ xs, (be 8 n).take 7 = xs := ⟨_, rfl⟩
        rw [hxs] at HSUC HO
        obtain ⟨b, hb⟩ : ∃ b : Nat, n % 256 = b := ⟨_, rfl⟩
        rw [hb] at HSUC
        have HB3 := Lib.hid (show b < 256 by omega)
        have HBE := Lib.hid hb
        clear hxs hb hy hj hjk
        go_wp2_with (at_builtin; refine wpList_append_txt rfl (.tmp 42) (.tmp 48) rfl w.heap.size 7 1 1 _ xs [b] (some ⟨wr.heap.size, 0, none⟩) Any rfl rfl (HO.out.alloc _) (byte_rd wr b _ (by have := HBE.out; have := HN.out; omega) HB3.out) (by omega) (Nat.le_trans HB.out.size (by simp)) ?_)
        intro v' W2 hown hgrow hat
        obtain ⟨C', c', rfl⟩ := own_slice_of hown
        have HO3 := Lib.hid hown; have HB4 := Lib.hid (below_own (HB.out.alloc HB.out.size _) (HO.out.alloc _) (Nat.le_refl _) hgrow); clear hown hgrow hat
        go_wp2
        go_roundw
        case rel => exact ⟨8, 8, c', C', -1, by go_num, rfl, by omega, rfl, by omega, Lib.hid (by rw [HSUC.out]; exact HO3.out), HB4⟩
        case measure => simp [intOf]
    · obtain rfl : y = -1 := by omega
      obtain rfl : j = 8 := by omega
      subst hm
      clear hy hj hjk
      have HX := Lib.hid (show (be 8 n).take 8 = r by rw [← hr.out]; exact List.take_of_length_le (by rw [be_len]; omega))
      have HLT := Lib.hid (show ∀ j, gt r j < 256 by rw [← hr.out]; exact be_lt _ _)
      rw [HX.out] at HO
      obtain ⟨C', c', e, hX⟩ := Txt.of_own HO.out HLT.out
      injection e with e1 _ e3
      subst e1 e3
      have HXX := Lib.hid hX; clear hX
      go_wp2
      go_ret
      exact ⟨_, _, _, rfl, HXX.out, HB.out⟩

theorem okS_false {x : Int} (h : ¬ okS x = true) : ¬ x = 1 ∧ ¬ x = 2 ∧ ¬ x = 4 ∧ ¬ x = 8 := by
  simp [okS] at h; omega
set_option maxHeartbeats 2000000 in
set_option maxRecDepth 100000 in
theorem rnumber_any (n x : Int) (w : World) (hn : n < 9223372036854775808) (r : List Nat) (hr : Hid (numB n x = r)) :
    Calls Tryz.prog 47 #[.int .i64 n, .int .i64 x] w (Told r w) := by
  by_cases h1 : okS x = true
  · by_cases h2 : 0 ≤ n
    · obtain ⟨m, rfl⟩ : ∃ m : Nat, n = m := ⟨n.toNat, by omega⟩
      rcases okS_true h1 with rfl | rfl | rfl | rfl
      · by_cases h3 : m < 256
        · exact rnumber_1 m w h3 r (Lib.hid (by rw [← hr.out]; unfold numB; rw [if_pos ⟨by rfl, by omega, by simpa using h3⟩]; rfl))
        · have HR := Lib.hid (show r = [] by rw [← hr.out]; unfold numB; rw [if_neg]; rintro ⟨-, -, h⟩; exact h3 (by simpa using h))
          have y0 : ¬ (m : Int) < 0 := by omega
          obtain ⟨q, hq, hq0⟩ : ∃ q : Int, (m : Int) / 2 ^ 8 = q ∧ ¬ q = 0 := ⟨_, rfl, by rw [show ((2 : Int) ^ 8) = 256 from rfl]; omega⟩
          have hq2 : (m : Int) / 256 = q := hq
          clear h3
          have hn' : Hid (m < 9223372036854775808) := Lib.hid (by omega)
          clear hn
          go_enter Tryz.func47, Tryz.ntmps47
          go_wp2
          go_ret
          rw [HR.out]
          exact Told.none _
      · by_cases h3 : m < 65536
        · exact rnumber_2 m w h3 r (Lib.hid (by rw [← hr.out]; unfold numB; rw [if_pos ⟨by rfl, by omega, by simpa using h3⟩]; rfl))
        · have HR := Lib.hid (show r = [] by rw [← hr.out]; unfold numB; rw [if_neg]; rintro ⟨-, -, h⟩; exact h3 (by simpa using h))
          have y0 : ¬ (m : Int) < 0 := by omega
          obtain ⟨q, hq, hq0⟩ : ∃ q : Int, (m : Int) / 2 ^ 16 = q ∧ ¬ q = 0 := ⟨_, rfl, by rw [show ((2 : Int) ^ 16) = 65536 from rfl]; omega⟩
          have hq2 : (m : Int) / 65536 = q := hq
          clear h3
          have hn' : Hid (m < 9223372036854775808) := Lib.hid (by omega)
          clear hn
          go_enter Tryz.func47, Tryz.ntmps47
          go_wp2
          go_ret
          rw [HR.out]
          exact Told.none _
      · by_cases h3 : m < 4294967296
        · exact rnumber_4 m w h3 r (Lib.hid (by rw [← hr.out]; unfold numB; rw [if_pos ⟨by rfl, by omega, by simpa using h3⟩]; rfl))
        · have HR := Lib.hid (show r = [] by rw [← hr.out]; unfold numB; rw [if_neg]; rintro ⟨-, -, h⟩; exact h3 (by simpa using h))
          have y0 : ¬ (m : Int) < 0 := by omega
          obtain ⟨q, hq, hq0⟩ : ∃ q : Int, (m : Int) / 2 ^ 32 = q ∧ ¬ q = 0 := ⟨_, rfl, by rw [show ((2 : Int) ^ 32) = 4294967296 from rfl]; omega⟩
          have hq2 : (m : Int) / 4294967296 = q := hq
          clear h3
          have hn' : Hid (m < 9223372036854775808) := Lib.hid (by omega)
          clear hn
          go_enter Tryz.func47, Tryz.ntmps47
          go_wp2
          go_ret
          rw [HR.out]
          exact Told.none _
      · exact rnumber_8 m w (by omega) r (Lib.hid (by rw [← hr.out]; unfold numB; rw [if_pos ⟨by rfl, by omega, by simp; omega⟩]; rfl))
    · have HR := Lib.hid (show r = [] by rw [← hr.out]; unfold numB; rw [if_neg]; rintro ⟨-, h, -⟩; exact h2 h)
      have y0 : n < 0 := by omega
      clear h2 hn
      rcases okS_true h1 with rfl | rfl | rfl | rfl
      · go_enter Tryz.func47, Tryz.ntmps47
        go_wp2
        go_ret
        rw [HR.out]
        exact Told.none _
      · go_enter Tryz.func47, Tryz.ntmps47
        go_wp2
        go_ret
        rw [HR.out]
        exact Told.none _
      · go_enter Tryz.func47, Tryz.ntmps47
        go_wp2
        go_ret
        rw [HR.out]
        exact Told.none _
      · go_enter Tryz.func47, Tryz.ntmps47
        go_wp2
        go_ret
        rw [HR.out]
        exact Told.none _
  · have HR := Lib.hid (show r = [] by rw [← hr.out]; unfold numB; rw [if_neg]; rintro ⟨h, -, -⟩; exact h1 h)
    obtain ⟨x1, x2, x4, x8⟩ := okS_false h1
    clear h1 hn
    go_enter Tryz.func47, Tryz.ntmps47
    go_wp2
    go_ret
    rw [HR.out]
    exact Told.none _
end Go.Proofs.YtophnoaneoeiaaaGreatDoor.Wr

namespace Go.Proofs.YtophnoaneoeiaaaGreatDoor.Wr
set_option linter.all false
open Go.RowKit

theorem okP_true' {n : Nat} {x : Int} (h : okP n x = true) : ∃ p : Nat, x = p ∧ p ≤ n := by
  have h' : 0 ≤ x ∧ x ≤ n := by simpa [okP] using h
  exact ⟨x.toNat, by omega, by omega⟩
end Go.Proofs.YtophnoaneoeiaaaGreatDoor.Wr

namespace Go.Proofs.YtophnoaneoeiaaaGreatDoor.Wr
set_option linter.all false
open Go.RowKit

/-- bytes in a row of the call's own -/
def Laid (l : List Nat) (w : World) (e : Ending) (w' : World) : Prop :=
  ∃ h cap, e = .returned (.slice (some ⟨h, 0, none⟩) l.length cap) ∧ w'.ownsRow w.heap.size 5 1 (.slice (some ⟨h, 0, none⟩) l.length cap) l.length (bcells l) ∧ Below w.heap.size w w'
theorem laid_built (w : World) (l : List Nat) (cs : Array Value) (n : Nat) (hl : l.length = n) (hc : cs = (bcells l).toArray) (hm : n ≤ 1000) :
    (w.alloc (.cells cs 5)).ownsRow w.heap.size 5 1 (.slice (some ⟨w.heap.size, 0, none⟩) n n) n (bcells l) := by
  subst hc hl
  exact ⟨by rw [bcells_len, Nat.mul_one], .inr ⟨w.heap.size, l.length, _, rfl, Nat.le_refl _, heap_alloc_last w _, Nat.le_refl _, by unfold maxLen; omega, by simp [bcells_len], by simp [bcells_len, List.take_of_length_le]⟩⟩
theorem be1 (n : Nat) : be 1 n = [n % 256] := by simp [be]
theorem be2 (n : Nat) : be 2 n = [n / 256 % 256, n % 256] := by simp [be]
theorem be4 (n : Nat) : be 4 n = [n / 16777216 % 256, n / 65536 % 256, n / 256 % 256, n % 256] := by simp [be]
theorem cells1 {a : Int} {x : Nat} (h : a = x) : (#[.int .u8 a] : Array Value) = (bcells [x]).toArray := by subst h; rfl
theorem cells2 {a b : Int} {x y : Nat} (h : a = x) (h2 : b = y) : (#[.int .u8 a, .int .u8 b] : Array Value) = (bcells [x, y]).toArray := by subst h h2; rfl
theorem cells4 {a b c d : Int} {x y z u : Nat} (h : a = x) (h2 : b = y) (h3 : c = z) (h4 : d = u) : (#[.int .u8 a, .int .u8 b, .int .u8 c, .int .u8 d] : Array Value) = (bcells [x, y, z, u]).toArray := by subst h h2 h3 h4; rfl

set_option maxHeartbeats 2000000 in
set_option maxRecDepth 100000 in
/-- of any number below 2^30 -/
theorem rlength_any (n : Nat) (w : World) (hn : n < 1073741824) (r : List Nat) (hr : Hid (lenB n = r)) :
    Calls Tryz.prog 134 #[.int .i64 n] w (Laid r w) := by
  by_cases h1 : n < 64
  · obtain rfl : r = [n] := by rw [← hr.out]; unfold lenB szB mark; rw [if_pos h1]; simp [be1]; omega
    have y1 : (n : Int) < 64 := by omega
    have HN := Lib.hid h1; clear h1 hn hr
    go_enter Tryz.func134, Tryz.ntmps134
    go_wp2
    go_ret
    exact ⟨_, _, rfl, laid_built w [n] _ 1 rfl (cells1 (by have := HN.out; omega)) (by omega), (Below.refl _ _).alloc (Nat.le_refl _) _⟩
  by_cases h2 : n < 16384
  · obtain ⟨x, hx, hx'⟩ : ∃ x : Nat, n / 256 + 64 = x ∧ x < 128 := ⟨_, rfl, by omega⟩
    obtain ⟨y, hy, hy'⟩ : ∃ y : Nat, n % 256 = y ∧ y < 256 := ⟨_, rfl, by omega⟩
    obtain rfl : r = [x, y] := by
      rw [← hr.out]; unfold lenB szB mark; rw [if_neg h1, if_pos h2]
      show be 2 (n + 16384) = _
      rw [be2]
      congr 1
      · omega
      · congr 1; omega
    have y1 : ¬ (n : Int) < 64 := by omega
    have y2 : (n : Int) < 16384 := by omega
    have HXX := Lib.hid hx; have HYY := Lib.hid hy; have H1 := Lib.hid h1; have H2 := Lib.hid h2
    clear h1 h2 hn hr hx hy hx' hy'
    go_enter Tryz.func134, Tryz.ntmps134
    go_wp2
    go_ret
    exact ⟨_, _, rfl, laid_built w [x, y] _ 2 rfl (cells2 (by have := HXX.out; have := H2.out; omega) (by have := HYY.out; omega)) (by omega), (Below.refl _ _).alloc (Nat.le_refl _) _⟩
  · obtain ⟨x, hx⟩ : ∃ x : Nat, n / 16777216 + 128 = x := ⟨_, rfl⟩
    obtain ⟨y, hy⟩ : ∃ y : Nat, n / 65536 % 256 = y := ⟨_, rfl⟩
    obtain ⟨z, hz⟩ : ∃ z : Nat, n / 256 % 256 = z := ⟨_, rfl⟩
    obtain ⟨u, hu⟩ : ∃ u : Nat, n % 256 = u := ⟨_, rfl⟩
    obtain rfl : r = [x, y, z, u] := by
      rw [← hr.out]; unfold lenB szB mark; rw [if_neg h1, if_neg h2]
      show be 4 (n + 2147483648) = _
      rw [be4]
      congr 1
      · omega
      · congr 1
        · omega
        · congr 1
          · omega
          · congr 1; omega
    have y1 : ¬ (n : Int) < 64 := by omega
    have y2 : ¬ (n : Int) < 16384 := by omega
    have HXX := Lib.hid hx; have HYY := Lib.hid hy; have HZZ := Lib.hid hz; have HUU := Lib.hid hu; have HNN := Lib.hid hn
    clear h1 h2 hn hr hx hy hz hu
    go_enter Tryz.func134, Tryz.ntmps134
    go_wp2
    go_ret
    exact ⟨_, _, rfl, laid_built w [x, y, z, u] _ 4 rfl (cells4 (by have := HXX.out; have := HNN.out; omega) (by have := HYY.out; omega) (by have := HZZ.out; omega) (by have := HUU.out; omega)) (by omega), (Below.refl _ _).alloc (Nat.le_refl _) _⟩

set_option maxHeartbeats 2000000 in
set_option maxRecDepth 100000 in
theorem rtext_any (A : Option Addr) (s : List Nat) (n c : Nat) (w : World) (hA : Txt Any w A n c s) (r : List Nat × Nat) (hr : Hid (putT s = r)) :
    Calls Tryz.prog 113 #[.slice A n c] w (ToldE r w) := by
  have hl := hA.len
  have HA := Lib.hid hA
  by_cases h : 1048576 < n
  · have HR : Hid (([], 2) = r) := Lib.hid (by rw [← hr.out]; unfold putT; rw [hl, if_pos h])
    have y1 : (1048576 : Int) < (n : Int) := by omega
    go_enter Tryz.func113, Tryz.ntmps113
    go_wp2
    go_ret2
    rw [← HR.out]
    exact ⟨_, _, _, rfl, Txt.nil _ _, Below.refl _ _⟩
  · have HR : Hid ((lenB n ++ s, 0) = r) := Lib.hid (by rw [← hr.out]; unfold putT txB; rw [hl, if_neg h])
    have y1 : ¬ (1048576 : Int) < (n : Int) := by omega
    obtain ⟨k, hk, hk4⟩ : ∃ k, (lenB n).length = k ∧ k ≤ 4 := ⟨_, rfl, by rw [lenB_len]; exact (szB_pos n).2⟩
    have HLT := Lib.hid (lenB_lt n)
    obtain ⟨l, hl2⟩ : ∃ l, lenB n = l := ⟨_, rfl⟩
    have HLN := Lib.hid hl2
    rw [hl2] at hk HLT HR
    clear hl2
    go_enter Tryz.func113, Tryz.ntmps113
    go_wp2_with fail
    refine (rlength_any n w (by omega) l HLN).mono ?_
    rintro e' w1 ⟨h1, cap1, rfl, hO, hB⟩
    rw [hk] at hO ⊢
    have HO := Lib.hid hO; have HB := Lib.hid hB; clear hO hB hk
    have HA1 := Lib.hid (HA.out.below HB.out)
    go_wp2_with (at_builtin; refine wpList_append_txt rfl (.tmp 9) (.tmp 10) rfl w.heap.size k n c _ l s A Any rfl rfl HO.out HA1.out (by omega) HB.out.size ?_)
    intro v' W2 hown hgrow hat
    obtain ⟨C', c', rfl⟩ := own_slice_of hown
    have HB3 := Lib.hid (below_own HB.out HO.out (Nat.le_refl _) hgrow)
    obtain ⟨A', c'', e, hX⟩ := Txt.of_own hown (gt_append_lt HLT.out HA.out.lt)
    injection e with e1 _ e3
    subst e1 e3
    have HX := Lib.hid hX; clear hX hown hgrow hat
    go_wp2
    go_ret2
    rw [← HR.out]
    exact ⟨_, _, _, rfl, HX.out, HB3.out⟩
end Go.Proofs.YtophnoaneoeiaaaGreatDoor.Wr
