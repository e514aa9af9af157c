/- Walks: head, great. -/
import Derived.Test.YthjoafldndgahaaDoorWrWalkI
namespace Go.Proofs.YthjoafldndgahaaDoor.Wr
set_option linter.all false
open Go.RowKit

theorem built (w : World) (l : List Nat) (cs : Array Value) (fr : Nat × Nat) (n : Nat) (hl : l.length = n) (hx : ∀ j, gt l j < 256) (hc : ∀ j, j < n → cs[j]? = some (.int .u8 ((gt l j : Nat) : Int))) (hn : n ≤ 1000) :
    Txt Any (w.alloc (.cells cs 5 fr)) (some ⟨w.heap.size, 0, none⟩) n n l := by
  refine ⟨⟨hx, fun _ => ⟨_, rfl, by simp, fun j hj => ?_⟩⟩, hl, Nat.le_refl _, by omega, fun e => (by cases e), fun _ _ => True.intro⟩
  have ha : (⟨w.heap.size, 0, none⟩ : Addr).add j = ⟨w.heap.size, j, none⟩ := by unfold Addr.add; split <;> simp_all
  rw [ha, cell_of_row _ _ j _ 5 fr (heap_alloc_last w _)]
  exact hc j (by omega)
theorem three {P : Nat → Prop} {n : Nat} (hn : n ≤ 3) (h0 : P 0) (h1 : P 1) (h2 : P 2) : ∀ j, j < n → P j := by
  intro j hj
  match j, hj with
  | 0, _ => exact h0
  | 1, _ => exact h1
  | 2, _ => exact h2
  | j + 3, h => omega
theorem two {P : Nat → Prop} {n : Nat} (hn : n ≤ 2) (h0 : P 0) (h1 : P 1) : ∀ j, j < n → P j := by
  intro j hj
  match j, hj with
  | 0, _ => exact h0
  | 1, _ => exact h1
  | j + 2, h => omega
theorem headA : putT [97, 98] = ([2, 97, 98], 0) := by decide +kernel
theorem headB : getT [64, 1, 97] 0 = ([], 0, 112) := by decide +kernel
theorem headC : numB 258 2 = [1, 2] := by decide +kernel
theorem headD : numB 256 1 = [] := by decide +kernel

theorem great_any (A : Option Addr) (n c : Nat) (w : World) : Calls Tryd.prog 11 #[.slice A n c] w fun e w' => e = .returned (.bool (decide (2097152 < n))) ∧ w = w' := by
  by_cases h : 2097152 < n
  · have y1 : (2097152 : Int) < (n : Int) := by omega
    rw [decide_eq_true h]
    go_enter Tryd.func11, Tryd.ntmps11
    go_wp2
    go_ret
    exact ⟨rfl, rfl⟩
  · have y1 : ¬ (2097152 : Int) < (n : Int) := by omega
    rw [decide_eq_false h]
    go_enter Tryd.func11, Tryd.ntmps11
    go_wp2
    go_ret
    exact ⟨rfl, rfl⟩

set_option maxHeartbeats 2000000 in
set_option maxRecDepth 100000 in
theorem head_any (w : World) (hT : Tables w) :
    Calls Tryd.prog 10 #[] w fun e w' => e = .returned (.bool true) ∧ Below w.heap.size w w' := by
  have hlt := hT.lt
  have HT := Lib.hid hT; clear hT
  have HX0 := Lib.hid (built w [97, 98] #[.int .u8 97, .int .u8 98] (2, 3) 2 rfl (gt_lt_of_mem (by decide)) (two (by omega) rfl rfl) (by omega))
  have HB0 := Lib.hid ((Below.refl w.heap.size w).alloc (Nat.le_refl _) (.cells #[.int .u8 97, .int .u8 98] 5 (2, 3)))
  have hcv : (convert 22 22 (.slice (some ⟨w.heap.size, 0, none⟩) 2 2)).run Tryd.prog (w.alloc (.cells #[.int .u8 97, .int .u8 98] 5)) = .ok (.slice (some ⟨w.heap.size, 0, none⟩) 2 2) (w.alloc (.cells #[.int .u8 97, .int .u8 98] 5 (2, 3))) := Lib.run_convert_bytes_const w 22 5 _ 2 2 Tryd.underlying22 Tryd.underlying5
  go_enter Tryd.func10, Tryd.ntmps10
  go_wp2_with fail
  refine (text_any _ [97, 98] 2 2 _ (HT.out.below HB0.out hlt) HX0.out _ (Lib.hid headA)).mono ?_
  rintro e' w1 ⟨A1, n1, c1, rfl, hX1, hB1⟩
  have HX1 := Lib.hid hX1; have HB1 := Lib.hid (HB0.out.trans (hB1.mono HB0.out.size)); clear hX1 hB1 HX0 HB0
  have HX2 := Lib.hid (built w1 [64, 1, 97] #[.int .u8 64, .int .u8 1, .int .u8 97] (0, 0) 3 rfl (gt_lt_of_mem (by decide)) (three (by omega) rfl rfl (by rfl)) (by omega))
  have HA2 := Lib.hid ((Below.refl w1.heap.size w1).alloc (Nat.le_refl _) (.cells #[.int .u8 64, .int .u8 1, .int .u8 97] 5))
  have HB2 := Lib.hid (HB1.out.trans (HA2.out.mono HB1.out.size))
  go_wp2_with fail
  refine (getText_any _ [64, 1, 97] 3 3 0 _ (HT.out.below HB2.out hlt) HX2.out (by omega) _ (Lib.hid headB)).mono ?_
  rintro e' w2 ⟨A2, n2, c2, rfl, hX3, hB3⟩
  have HB3 := Lib.hid (HB2.out.trans (hB3.mono HB2.out.size)); clear hX3
  have hconv := ((HX1.out.below HA2.out).below hB3).conv
  have e1 : txt [2, 97, 98] = ⟨#[2, 97, 98]⟩ := by decide +kernel
  rw [e1] at hconv
  clear hB3 HX2 e1
  go_wp2_with fail
  refine (number_any 258 2 w2 (by omega)).mono ?_
  rintro e' w3 ⟨A3, n3, c3, rfl, hX4, hB4⟩
  rw [headC] at hX4
  have HB4 := Lib.hid (HB3.out.trans (hB4.mono HB3.out.size))
  have hconv2 := hX4.conv
  have e2 : txt [1, 2] = ⟨#[1, 2]⟩ := by decide +kernel
  rw [e2] at hconv2
  clear hB4 hX4 e2 hconv
  go_wp2_with fail
  refine (number_any 256 1 w3 (by omega)).mono ?_
  rintro e' w4 ⟨A4, n4, c4, rfl, hX5, hB5⟩
  rw [headD] at hX5
  obtain rfl : 0 = n4 := hX5.len
  have HB5 := Lib.hid (HB4.out.trans (hB5.mono HB4.out.size))
  clear hB5 hX5 hconv2
  go_wp2
  go_ret
  exact ⟨rfl, HB5.out⟩
end Go.Proofs.YthjoafldndgahaaDoor.Wr
