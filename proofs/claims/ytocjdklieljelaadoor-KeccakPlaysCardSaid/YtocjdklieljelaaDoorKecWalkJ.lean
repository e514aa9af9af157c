/- Walks: head, great; bytes as strings. -/
import Derived.Test.YtocjdklieljelaaDoorKecWalkI
import Derived.Test.YtocjdklieljelaaDoorKecEval
import Derived.Laws.BytesArg
namespace Go.Proofs.YtocjdklieljelaaDoor.Kec
set_option linter.all false
open Go.RowKit

/-- bytes as a string -/
def txt (bs : List Nat) : ByteArray := strOfNums (bs.map fun x => ((x : Nat) : Int))
theorem conv_row {w : World} {h n k c : Nat} {bs : List Nat} (hrow : w.rowIs h 5 n (byteRow bs)) (hk : k ≤ n) (hn : bs.length = n) :
    (convert 22 9 (.slice (some ⟨h, 0, none⟩) k c)).run Tryd.prog w = .ok (.string (txt (bs.take k))) w := by
  refine run_convert_bytes_arg (P := Tryd.prog) w 22 5 Tryd.underlying22 Tryd.underlying5 h 0 k c _ (by simp; omega) ?_ 9 Tryd.underlying9
  intro i hi
  rw [Nat.zero_add, hrow.cell (by omega)]
  simp [byteRow, gt, List.getD_eq_getElem?_getD, List.getElem?_take, hi]
  have : i < bs.length := by omega
  simp [this]
theorem conv_all {w : World} {h n c : Nat} {bs : List Nat} (hrow : w.rowIs h 5 n (byteRow bs)) (hn : bs.length = n) :
    (convert 22 9 (.slice (some ⟨h, 0, none⟩) n c)).run Tryd.prog w = .ok (.string (txt bs)) w := by
  have := conv_row (c := c) hrow (Nat.le_refl n) hn
  rwa [List.take_of_length_le (by omega)] at this

set_option maxHeartbeats 1000000 in
set_option maxRecDepth 100000 in
theorem head_any (w : World) (hT : Tables w) : Calls Tryd.prog 8 #[] w fun e w' => e = .returned (.bool true) ∧ Below w.heap.size w w' := by
  have h3 := hT.lt
  have HT := Lib.hid hT; clear hT
  go_enter Tryd.func8, Tryd.ntmps8
  go_wp2_with fail
  refine (sum256_any none [] 0 0 _ HT.out (Rd.nil _ _ _) rfl (by omega)).mono ?_
  rintro e' w1 ⟨h1, rfl, hh1, hrow1, hB1⟩
  rw [sponge_len] at hrow1 ⊢
  have HR1 := Lib.hid hrow1; have HB1 := Lib.hid hB1; clear hrow1 hB1
  have HT1 := Lib.hid (HT.out.below HB1.out h3)
  go_wp2_with fail
  refine (shake128_any none [] 0 0 8 _ HT1.out (Rd.nil _ _ _) rfl (by omega) (by omega)).mono ?_
  rintro e' w2 ⟨h2, rfl, hh2, hrow2, hB2⟩
  rw [sponge_len] at hrow2 ⊢
  have HB2 := Lib.hid (HB1.out.trans (hB2.mono HB1.out.size))
  have hc1 := conv_row (k := 8) (c := 32) (HR1.out.of_block (hB2.block h1 HR1.out.lt)) (by omega) (sponge_len _ _ _ _)
  have hc2 := conv_all (c := 8) hrow2 (sponge_len _ _ _ _)
  rw [sum_nil] at hc1
  rw [shake_nil] at hc2
  have e1 : txt [167, 255, 198, 248, 191, 30, 215, 102] = ⟨#[167, 255, 198, 248, 191, 30, 215, 102]⟩ := by decide +kernel
  have e2 : txt [127, 156, 43, 164, 232, 143, 130, 125] = ⟨#[127, 156, 43, 164, 232, 143, 130, 125]⟩ := by decide +kernel
  rw [e1] at hc1
  rw [e2] at hc2
  clear hrow2 hB2 e1 e2
  have HT2 := Lib.hid (HT.out.below HB2.out h3)
  go_wp2_with fail
  refine (sum512_any none [] 0 0 _ HT2.out (Rd.nil _ _ _) rfl (by omega)).mono ?_
  rintro e' w3 ⟨h4, rfl, hh4, _, hB4⟩
  have HB4 := Lib.hid (HB2.out.trans (hB4.mono HB2.out.size))
  rw [sponge_len]
  clear hB4 hc1 hc2
  go_wp2_with fail
  refine (new_bad 7 1 _ (by omega)).mono ?_
  rintro e' w4 ⟨rfl, rfl⟩
  go_wp2
  go_ret
  exact ⟨rfl, HB4.out⟩

theorem great_any (A : Option Addr) (n c : Nat) (w : World) : Calls Tryd.prog 9 #[.slice A n c] w fun e w' => e = .returned (.bool (decide (5000 < n))) ∧ w = w' := by
  go_enter Tryd.func9, Tryd.ntmps9
  go_wp2
  go_ret
  exact ⟨by simp; omega, rfl⟩
theorem great_yes (A : Option Addr) (n c : Nat) (w : World) (h : 5000 < n) : Calls Tryd.prog 9 #[.slice A n c] w fun e w' => e = .returned (.bool true) ∧ w = w' :=
  (great_any A n c w).mono fun _ _ ⟨e, hw⟩ => ⟨by rw [e, decide_eq_true h], hw⟩
theorem great_no (A : Option Addr) (n c : Nat) (w : World) (h : n ≤ 5000) : Calls Tryd.prog 9 #[.slice A n c] w fun e w' => e = .returned (.bool false) ∧ w = w' :=
  (great_any A n c w).mono fun _ _ ⟨e, hw⟩ => ⟨by rw [e, decide_eq_false (by omega)], hw⟩

end Go.Proofs.YtocjdklieljelaaDoor.Kec
