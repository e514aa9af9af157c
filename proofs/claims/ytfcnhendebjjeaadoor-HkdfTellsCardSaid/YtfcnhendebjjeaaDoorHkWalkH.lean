/- Walks: head. -/
import Derived.Test.YtfcnhendebjjeaaDoorHkWalkG
namespace Go.Proofs.YtfcnhendebjjeaaDoor.Sha
set_option linter.all false
open Go.RowKit Iter

def keyL : List Nat := [107, 101, 121]
def foxL : List Nat := [84, 104, 101, 32, 113, 117, 105, 99, 107, 32, 98, 114, 111, 119, 110, 32, 102, 111, 120, 32, 106, 117, 109, 112, 115, 32, 111, 118, 101, 114, 32, 116, 104, 101, 32, 108, 97, 122, 121, 32, 100, 111, 103]
theorem head_mac : (mac keyL foxL).take 4 = [247, 188, 131, 244] := by decide +kernel
theorem const_rd (w : World) (bs : List Nat) (fr : Nat × Nat) (h : ∀ x ∈ bs, x < 256) {B : Nat} (hB : w.heap.size < B) : Rd (w.alloc (.cells (bcells bs).toArray 5 fr)) B (some ⟨w.heap.size, 0, none⟩) bs := by
  refine ⟨gt_lt_of_mem h, fun _ => ⟨_, rfl, hB, fun j hj => ?_⟩⟩
  have ha : (⟨w.heap.size, 0, none⟩ : Addr).add j = ⟨w.heap.size, j, none⟩ := by unfold Addr.add; split <;> simp_all
  rw [ha, cell_of_row _ _ j _ 5 fr (heap_alloc_last w _), List.getElem?_toArray, bcells_at _ _ hj]

set_option maxHeartbeats 2000000 in
set_option maxRecDepth 100000 in
theorem head_any (w : World) (hT : Tables w) : Calls Tryd.prog 9 #[] w fun e w' => e = .returned (.bool true) ∧ Below w.heap.size w w' := by
  have h2 := hT.lt
  have HT := Lib.hid hT; clear hT
  have hcv : ∀ (w : World) (C : Array Value) (n : Nat), (convert 22 22 (.slice (some ⟨w.heap.size, 0, none⟩) n n)).run Tryd.prog (w.alloc (.cells C 5)) = .ok (.slice (some ⟨w.heap.size, 0, none⟩) n n) (w.alloc (.cells C 5 (C.size, C.size + 1))) := fun w C n => Lib.run_convert_bytes_const w 22 5 C n n Tryd.underlying22 Tryd.underlying5
  go_enter Tryd.func9, Tryd.ntmps9
  have hc1 := hcv w #[.int .u8 107, .int .u8 101, .int .u8 121] 3
  have hc2 : (convert 22 22 (.slice (some ⟨w.heap.size + 1, 0, none⟩) 43 43)).run Tryd.prog ((w.alloc (.cells #[.int .u8 107, .int .u8 101, .int .u8 121] 5 (3, 4))).alloc (.cells #[.int .u8 84, .int .u8 104, .int .u8 101, .int .u8 32, .int .u8 113, .int .u8 117, .int .u8 105, .int .u8 99, .int .u8 107, .int .u8 32, .int .u8 98, .int .u8 114, .int .u8 111, .int .u8 119, .int .u8 110, .int .u8 32, .int .u8 102, .int .u8 111, .int .u8 120, .int .u8 32, .int .u8 106, .int .u8 117, .int .u8 109, .int .u8 112, .int .u8 115, .int .u8 32, .int .u8 111, .int .u8 118, .int .u8 101, .int .u8 114, .int .u8 32, .int .u8 116, .int .u8 104, .int .u8 101, .int .u8 32, .int .u8 108, .int .u8 97, .int .u8 122, .int .u8 121, .int .u8 32, .int .u8 100, .int .u8 111, .int .u8 103] 5)) = .ok (.slice (some ⟨w.heap.size + 1, 0, none⟩) 43 43) ((w.alloc (.cells #[.int .u8 107, .int .u8 101, .int .u8 121] 5 (3, 4))).alloc (.cells #[.int .u8 84, .int .u8 104, .int .u8 101, .int .u8 32, .int .u8 113, .int .u8 117, .int .u8 105, .int .u8 99, .int .u8 107, .int .u8 32, .int .u8 98, .int .u8 114, .int .u8 111, .int .u8 119, .int .u8 110, .int .u8 32, .int .u8 102, .int .u8 111, .int .u8 120, .int .u8 32, .int .u8 106, .int .u8 117, .int .u8 109, .int .u8 112, .int .u8 115, .int .u8 32, .int .u8 111, .int .u8 118, .int .u8 101, .int .u8 114, .int .u8 32, .int .u8 116, .int .u8 104, .int .u8 101, .int .u8 32, .int .u8 108, .int .u8 97, .int .u8 122, .int .u8 121, .int .u8 32, .int .u8 100, .int .u8 111, .int .u8 103] 5 (43, 44))) := by
    have := hcv (w.alloc (.cells #[.int .u8 107, .int .u8 101, .int .u8 121] 5 (3, 4))) #[.int .u8 84, .int .u8 104, .int .u8 101, .int .u8 32, .int .u8 113, .int .u8 117, .int .u8 105, .int .u8 99, .int .u8 107, .int .u8 32, .int .u8 98, .int .u8 114, .int .u8 111, .int .u8 119, .int .u8 110, .int .u8 32, .int .u8 102, .int .u8 111, .int .u8 120, .int .u8 32, .int .u8 106, .int .u8 117, .int .u8 109, .int .u8 112, .int .u8 115, .int .u8 32, .int .u8 111, .int .u8 118, .int .u8 101, .int .u8 114, .int .u8 32, .int .u8 116, .int .u8 104, .int .u8 101, .int .u8 32, .int .u8 108, .int .u8 97, .int .u8 122, .int .u8 121, .int .u8 32, .int .u8 100, .int .u8 111, .int .u8 103] 43
    rw [show (w.alloc (.cells #[.int .u8 107, .int .u8 101, .int .u8 121] 5 (3, 4))).heap.size = w.heap.size + 1 by simp] at this
    exact this
  have HRK : Hid (Rd (w.alloc (.cells #[.int .u8 107, .int .u8 101, .int .u8 121] 5 (3, 4))) (w.heap.size + 1) (some ⟨w.heap.size, 0, none⟩) keyL) := Lib.hid (const_rd w keyL (3, 4) (by decide) (by omega))
  have HRF : Hid (Rd ((w.alloc (.cells #[.int .u8 107, .int .u8 101, .int .u8 121] 5 (3, 4))).alloc (.cells #[.int .u8 84, .int .u8 104, .int .u8 101, .int .u8 32, .int .u8 113, .int .u8 117, .int .u8 105, .int .u8 99, .int .u8 107, .int .u8 32, .int .u8 98, .int .u8 114, .int .u8 111, .int .u8 119, .int .u8 110, .int .u8 32, .int .u8 102, .int .u8 111, .int .u8 120, .int .u8 32, .int .u8 106, .int .u8 117, .int .u8 109, .int .u8 112, .int .u8 115, .int .u8 32, .int .u8 111, .int .u8 118, .int .u8 101, .int .u8 114, .int .u8 32, .int .u8 116, .int .u8 104, .int .u8 101, .int .u8 32, .int .u8 108, .int .u8 97, .int .u8 122, .int .u8 121, .int .u8 32, .int .u8 100, .int .u8 111, .int .u8 103] 5 (43, 44))) (w.heap.size + 2) (some ⟨w.heap.size + 1, 0, none⟩) foxL) := Lib.hid (by
    have := const_rd (w.alloc (.cells #[.int .u8 107, .int .u8 101, .int .u8 121] 5 (3, 4))) foxL (43, 44) (by decide) (B := w.heap.size + 2) (by simp)
    rw [show (w.alloc (.cells #[.int .u8 107, .int .u8 101, .int .u8 121] 5 (3, 4))).heap.size = w.heap.size + 1 by simp] at this
    exact this)
  have HRK2 := Lib.hid (HRK.out.below ((Below.refl (w.heap.size + 1) (w.alloc (.cells #[.int .u8 107, .int .u8 101, .int .u8 121] 5 (3, 4)))).alloc (by simp) (.cells #[.int .u8 84, .int .u8 104, .int .u8 101, .int .u8 32, .int .u8 113, .int .u8 117, .int .u8 105, .int .u8 99, .int .u8 107, .int .u8 32, .int .u8 98, .int .u8 114, .int .u8 111, .int .u8 119, .int .u8 110, .int .u8 32, .int .u8 102, .int .u8 111, .int .u8 120, .int .u8 32, .int .u8 106, .int .u8 117, .int .u8 109, .int .u8 112, .int .u8 115, .int .u8 32, .int .u8 111, .int .u8 118, .int .u8 101, .int .u8 114, .int .u8 32, .int .u8 116, .int .u8 104, .int .u8 101, .int .u8 32, .int .u8 108, .int .u8 97, .int .u8 122, .int .u8 121, .int .u8 32, .int .u8 100, .int .u8 111, .int .u8 103] 5 (43, 44))))
  have HB1 := Lib.hid (((Below.refl w.heap.size w).alloc (Nat.le_refl _) (.cells #[.int .u8 107, .int .u8 101, .int .u8 121] 5 (3, 4))).alloc (by simp) (.cells #[.int .u8 84, .int .u8 104, .int .u8 101, .int .u8 32, .int .u8 113, .int .u8 117, .int .u8 105, .int .u8 99, .int .u8 107, .int .u8 32, .int .u8 98, .int .u8 114, .int .u8 111, .int .u8 119, .int .u8 110, .int .u8 32, .int .u8 102, .int .u8 111, .int .u8 120, .int .u8 32, .int .u8 106, .int .u8 117, .int .u8 109, .int .u8 112, .int .u8 115, .int .u8 32, .int .u8 111, .int .u8 118, .int .u8 101, .int .u8 114, .int .u8 32, .int .u8 116, .int .u8 104, .int .u8 101, .int .u8 32, .int .u8 108, .int .u8 97, .int .u8 122, .int .u8 121, .int .u8 32, .int .u8 100, .int .u8 111, .int .u8 103] 5 (43, 44)))
  have hsz1 : ((w.alloc (.cells #[.int .u8 107, .int .u8 101, .int .u8 121] 5 (3, 4))).alloc (.cells #[.int .u8 84, .int .u8 104, .int .u8 101, .int .u8 32, .int .u8 113, .int .u8 117, .int .u8 105, .int .u8 99, .int .u8 107, .int .u8 32, .int .u8 98, .int .u8 114, .int .u8 111, .int .u8 119, .int .u8 110, .int .u8 32, .int .u8 102, .int .u8 111, .int .u8 120, .int .u8 32, .int .u8 106, .int .u8 117, .int .u8 109, .int .u8 112, .int .u8 115, .int .u8 32, .int .u8 111, .int .u8 118, .int .u8 101, .int .u8 114, .int .u8 32, .int .u8 116, .int .u8 104, .int .u8 101, .int .u8 32, .int .u8 108, .int .u8 97, .int .u8 122, .int .u8 121, .int .u8 32, .int .u8 100, .int .u8 111, .int .u8 103] 5 (43, 44))).heap.size = w.heap.size + 2 := by simp
  go_wp2_with fail
  clear hc1 hc2 HRK
  generalize (w.alloc (.cells #[.int .u8 107, .int .u8 101, .int .u8 121] 5 (3, 4))).alloc (.cells #[.int .u8 84, .int .u8 104, .int .u8 101, .int .u8 32, .int .u8 113, .int .u8 117, .int .u8 105, .int .u8 99, .int .u8 107, .int .u8 32, .int .u8 98, .int .u8 114, .int .u8 111, .int .u8 119, .int .u8 110, .int .u8 32, .int .u8 102, .int .u8 111, .int .u8 120, .int .u8 32, .int .u8 106, .int .u8 117, .int .u8 109, .int .u8 112, .int .u8 115, .int .u8 32, .int .u8 111, .int .u8 118, .int .u8 101, .int .u8 114, .int .u8 32, .int .u8 116, .int .u8 104, .int .u8 101, .int .u8 32, .int .u8 108, .int .u8 97, .int .u8 122, .int .u8 121, .int .u8 32, .int .u8 100, .int .u8 111, .int .u8 103] 5 (43, 44)) = w1 at *
  refine (mac_any (some ⟨w.heap.size, 0, none⟩) (some ⟨w.heap.size + 1, 0, none⟩) keyL foxL 3 3 43 43 w1 (HT.out.below HB1.out h2) (HRK2.out.more (by omega)) rfl (by omega) (by omega) (by omega) (HRF.out.more (by omega)) rfl (by omega) (by omega) (by omega)).mono ?_
  rintro e' w2 ⟨h1, cap1, rfl, hown, hB2⟩
  have hcap := own_cap hown
  have hcv4 := conv_take (k := 4) (c := cap1) hown (by omega)
  rw [head_mac, show txt [247, 188, 131, 244] = ⟨#[247, 188, 131, 244]⟩ by decide +kernel] at hcv4
  have HB2 := Lib.hid (HB1.out.trans (hB2.mono HB1.out.size))
  clear hown hB2 HRK2 HRF
  have ha1 := hcv w2 #[.int .u8 97] 1
  have ha2 : (convert 22 22 (.slice (some ⟨w2.heap.size + 1, 0, none⟩) 1 1)).run Tryd.prog ((w2.alloc (.cells #[.int .u8 97] 5 (1, 2))).alloc (.cells #[.int .u8 97] 5)) = .ok (.slice (some ⟨w2.heap.size + 1, 0, none⟩) 1 1) ((w2.alloc (.cells #[.int .u8 97] 5 (1, 2))).alloc (.cells #[.int .u8 97] 5 (1, 2))) := by
    have := hcv (w2.alloc (.cells #[.int .u8 97] 5 (1, 2))) #[.int .u8 97] 1
    rw [show (w2.alloc (.cells #[.int .u8 97] 5 (1, 2))).heap.size = w2.heap.size + 1 by simp] at this
    exact this
  have HRA : Hid (Rd (w2.alloc (.cells #[.int .u8 97] 5 (1, 2))) (w2.heap.size + 1) (some ⟨w2.heap.size, 0, none⟩) [97]) := Lib.hid (const_rd w2 [97] (1, 2) (by decide) (by omega))
  have HRB : Hid (Rd ((w2.alloc (.cells #[.int .u8 97] 5 (1, 2))).alloc (.cells #[.int .u8 97] 5 (1, 2))) (w2.heap.size + 2) (some ⟨w2.heap.size + 1, 0, none⟩) [97]) := Lib.hid (by
    have := const_rd (w2.alloc (.cells #[.int .u8 97] 5 (1, 2))) [97] (1, 2) (by decide) (B := w2.heap.size + 2) (by simp)
    rw [show (w2.alloc (.cells #[.int .u8 97] 5 (1, 2))).heap.size = w2.heap.size + 1 by simp] at this
    exact this)
  have HRA2 := Lib.hid (HRA.out.below ((Below.refl (w2.heap.size + 1) (w2.alloc (.cells #[.int .u8 97] 5 (1, 2)))).alloc (by simp) (.cells #[.int .u8 97] 5 (1, 2))))
  have HB3 := Lib.hid ((HB2.out.alloc HB2.out.size (.cells #[.int .u8 97] 5 (1, 2))).alloc (by have := HB2.out.size; simp; omega) (.cells #[.int .u8 97] 5 (1, 2)))
  have hsz3 : ((w2.alloc (.cells #[.int .u8 97] 5 (1, 2))).alloc (.cells #[.int .u8 97] 5 (1, 2))).heap.size = w2.heap.size + 2 := by simp
  clear hcv
  go_wp2_with fail
  clear hcv4 ha1 ha2 HRA
  generalize (w2.alloc (.cells #[.int .u8 97] 5 (1, 2))).alloc (.cells #[.int .u8 97] 5 (1, 2)) = w3 at *
  refine (equal_any (some ⟨w2.heap.size, 0, none⟩) (some ⟨w2.heap.size + 1, 0, none⟩) [97] [97] 1 1 1 1 w3 (HRA2.out.more (by omega)) rfl (HRB.out.more (by omega)) rfl (by omega) (by omega)).mono ?_
  rintro e' w4 ⟨rfl, m, rfl⟩
  have HB4 := Lib.hid (show Below w.heap.size w (w3.drewN m) from ⟨HB3.out.os, HB3.out.tape, HB3.out.output, HB3.out.size, HB3.out.block⟩)
  clear HB3 hsz3
  generalize w3.drewN m = w4 at *
  rw [show decide (([97] : List Nat) = [97]) = true from rfl]
  go_wp2_with fail
  refine (expand_any none none [] [] 0 0 0 0 33 w4 (HT.out.below HB4.out h2) (Rd.nil _ _ _) rfl (by omega) (by omega) (by omega) (Rd.nil _ _ _) rfl (by omega) (by omega) (by omega) (by omega)).mono ?_
  rintro e' w5 ⟨h5, rfl, _, hB5⟩
  have HB5 := Lib.hid (HB4.out.trans (hB5.mono HB4.out.size))
  clear hB5
  go_wp2_with fail
  refine (label_bad none none 0 0 0 0 ⟨#[120]⟩ 8161 w5 (by omega)).mono ?_
  rintro e' w6 ⟨rfl, rfl⟩
  go_wp2
  go_ret
  exact ⟨rfl, HB5.out⟩

end Go.Proofs.YtfcnhendebjjeaaDoor.Sha
