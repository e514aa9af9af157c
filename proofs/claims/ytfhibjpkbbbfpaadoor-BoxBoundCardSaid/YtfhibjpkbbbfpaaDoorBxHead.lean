/- Walks: head, great. -/
import Derived.Test.YtfhibjpkbbbfpaaDoorBxWalkG
import Derived.Test.YtfhibjpkbbbfpaaDoorWrM2
namespace Go.Proofs.YtfhibjpkbbbfpaaDoor.Bx
set_option linter.all false
open Go.RowKit Wr

theorem openQ_right {key ahead text : List Nat} : openQ key ahead (hide (kS key) text ++ tg (kT key) ahead (hide (kS key) text)) = (text, 0) := by
  have hn : (hide (kS key) text ++ tg (kT key) ahead (hide (kS key) text)).length - 32 = (hide (kS key) text).length := by rw [List.length_append, tg_len]; omega
  unfold openQ
  rw [hn, List.drop_left, List.take_left, if_pos rfl, hide_back]
theorem great_any (A : Option Addr) (n c : Nat) (w : World) : Calls Tryd.prog 8 #[.slice A n c] w fun e w' => e = .returned (.bool (decide (40000 < n))) ∧ w = w' := by
  by_cases h : 40000 < n
  · have y1 : (40000 : Int) < (n : Int) := by omega
    rw [decide_eq_true h]
    go_enter Tryd.func8, Tryd.ntmps8
    go_wp2
    go_ret
    exact ⟨rfl, rfl⟩
  · have y1 : ¬ (40000 : Int) < (n : Int) := by omega
    rw [decide_eq_false h]
    go_enter Tryd.func8, Tryd.ntmps8
    go_wp2
    go_ret
    exact ⟨rfl, rfl⟩

def zeroKey : List Nat := List.replicate 32 0
theorem gt_zero (j : Nat) : gt zeroKey j = 0 := by
  unfold gt zeroKey
  rw [List.getD_eq_getElem?_getD, List.getElem?_replicate]
  split <;> rfl
set_option maxHeartbeats 2000000 in
set_option maxRecDepth 100000 in
theorem head_any (w : World) (hT : Tabs w) :
    Calls Tryd.prog 7 #[] w fun e w' => e = .returned (.bool true) ∧ Below w.heap.size w w' := by
  have hlt := hT.lt
  have HT := Lib.hid hT; clear hT
  have hmk : ∀ W, (Instr.makeSlice 22 (.int .i64 32) (.int .i64 32)).run Tryd.prog W = .ok (.slice (some ⟨W.heap.size, 0, none⟩) 32 32) (W.alloc (.cells (madeCells #[Value.int IntKind.u8 0] 32) 5)) := fun W => run_make_row' (P := Tryd.prog) 22 5 (.int .u8 0) 1 Tryd.underlying22 (by kernel_rfl) rfl .i64 .i64 32 (by omega) (by omega) W
  have hK0 : Txt (New w.heap.size (w.alloc (.cells (madeCells #[Value.int IntKind.u8 0] 32) 5))) (w.alloc (.cells (madeCells #[Value.int IntKind.u8 0] 32) 5)) (some ⟨w.heap.size, 0, none⟩) 32 32 zeroKey :=
    Txt.of_row ((World.rowIs_made w (.int .u8 0) 32 5).congr fun j hj => by unfold byteRow wordRow; rw [gt_zero]; rfl) (by simp [zeroKey]) (fun j => by rw [gt_zero]; omega) (Nat.le_refl _) (by omega)
  have hB0 := (Below.refl w.heap.size w).alloc (Nat.le_refl _) (.cells (madeCells #[Value.int IntKind.u8 0] 32) 5)
  have hsz : (w.alloc (.cells (madeCells #[Value.int IntKind.u8 0] 32) 5)).heap.size = w.heap.size + 1 := by simp
  have hcv : (convert 22 22 (.slice (some ⟨w.heap.size + 1, 0, none⟩) 2 2)).run Tryd.prog ((w.alloc (.cells (madeCells #[Value.int IntKind.u8 0] 32) 5)).alloc (.cells #[.int .u8 97, .int .u8 98] 5)) = .ok (.slice (some ⟨w.heap.size + 1, 0, none⟩) 2 2) ((w.alloc (.cells (madeCells #[Value.int IntKind.u8 0] 32) 5)).alloc (.cells #[.int .u8 97, .int .u8 98] 5 (2, 3))) := by
    have h := Lib.run_convert_bytes_const (w.alloc (.cells (madeCells #[Value.int IntKind.u8 0] 32) 5)) 22 5 #[.int .u8 97, .int .u8 98] 2 2 Tryd.underlying22 Tryd.underlying5
    rw [hsz] at h
    exact h
  obtain ⟨w0, hw0⟩ : ∃ w0, w.alloc (.cells (madeCells #[Value.int IntKind.u8 0] 32) 5) = w0 := ⟨_, rfl⟩
  have HW0 := Lib.hid hw0
  rw [hw0] at hK0 hB0 hsz
  have HK0 := Lib.hid hK0.any; have HB0 := Lib.hid hB0
  clear hK0 hB0 hw0
  have HX1 := Lib.hid (built w0 [97, 98] #[.int .u8 97, .int .u8 98] (2, 3) 2 rfl (gt_lt_of_mem (by decide)) (two (by omega) rfl rfl) (by omega))
  rw [hsz] at HX1
  have HA1 := Lib.hid ((Below.refl w0.heap.size w0).alloc (Nat.le_refl _) (.cells #[.int .u8 97, .int .u8 98] 5 (2, 3)))
  have HB1 := Lib.hid (HB0.out.alloc HB0.out.size (.cells #[.int .u8 97, .int .u8 98] 5 (2, 3)))
  have HK1 := Lib.hid (HK0.out.below HA1.out)
  go_enter Tryd.func7, Tryd.ntmps7
  go_wp2_with fail
  rw [HW0.out]
  obtain ⟨w1, hw1⟩ : ∃ w1, w0.alloc (.cells #[.int .u8 97, .int .u8 98] 5 (2, 3)) = w1 := ⟨_, rfl⟩
  rw [hw1] at HX1 HB1 HK1
  rw [hw1]
  clear hw1 hcv hmk HA1 HW0 hsz
  obtain ⟨h, hh⟩ : ∃ h, hide (kS zeroKey) [97, 98] = h := ⟨_, rfl⟩
  obtain ⟨t, ht⟩ : ∃ t, tg (kT zeroKey) [] h = t := ⟨_, rfl⟩
  have HQ : Hid (openQ zeroKey [] (h ++ t) = ([97, 98], 0)) := Lib.hid (by rw [← ht, ← hh]; exact openQ_right)
  have HN : Hid ((h ++ t).length = 34) := Lib.hid (by rw [List.length_append, ← ht, tg_len, ← hh, hide_len]; rfl)
  refine (close_ok (some ⟨w.heap.size, 0, none⟩) none _ zeroKey [] [97, 98] 32 0 0 2 2 w1 (HT.out.below HB1.out hlt) HK1.out (Txt.nil _ _) HX1.out (by omega) (by omega) h t (Lib.hid hh) (Lib.hid ht)).mono ?_
  rintro e' w2 ⟨A2, n2, c2, rfl, hX2, hB2⟩
  obtain rfl : n2 = 34 := by rw [← hX2.len]; exact HN.out
  have HX2 := Lib.hid hX2.any; have HK2 := Lib.hid (HK1.out.below hB2); have HB2 := Lib.hid (HB1.out.trans (hB2.mono HB1.out.size))
  clear hX2 hB2 hh ht HX1 HK1 HB1
  go_wp2_with fail
  refine (open_ok (some ⟨w.heap.size, 0, none⟩) A2 none zeroKey [] (h ++ t) 32 0 0 34 c2 w2 (HT.out.below HB2.out hlt) HK2.out (Txt.nil _ _) HX2.out (by omega) (by omega) (by omega) _ HQ).mono ?_
  rintro e' w3 ⟨A3, n3, c3, rfl, hX3, hB3⟩
  have HX3 := Lib.hid hX3.any; have HB3 := Lib.hid (HB2.out.trans (hB3.mono HB2.out.size))
  clear hX3 hB3
  go_wp2_with fail
  refine (open_bad (some ⟨w.heap.size, 0, none⟩) none none 32 32 0 0 0 0 w3 (by omega)).mono ?_
  rintro e' w4 ⟨rfl, hB4⟩
  have hconv := (HX3.out.below hB4).conv
  have HB4 := Lib.hid (HB3.out.trans (hB4.mono HB3.out.size))
  have e1 : txt [97, 98] = ⟨#[97, 98]⟩ := by decide +kernel
  rw [e1] at hconv
  clear hB4 e1
  go_wp2
  go_ret
  exact ⟨rfl, HB4.out⟩
end Go.Proofs.YtfhibjpkbbbfpaaDoor.Bx
