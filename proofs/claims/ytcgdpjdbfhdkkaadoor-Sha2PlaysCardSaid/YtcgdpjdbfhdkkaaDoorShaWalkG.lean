/- Walks: Sum, head, great. -/
import Derived.Test.YtcgdpjdbfhdkkaaDoorShaWalkF
import Derived.Test.YtcgdpjdbfhdkkaaDoorShaEval
import Derived.Lib.SlBytesConst
namespace Go.Proofs.YtcgdpjdbfhdkkaaDoor.Sha
open Go.RowKit

theorem own_cap {w : World} {base h n cap : Nat} {xs : List Value} (h1 : w.ownsRow base 5 1 (.slice (some ⟨h, 0, none⟩) n cap) n xs) : n ≤ cap ∧ cap ≤ maxLen := by
  rcases h1.2 with ⟨e, _⟩ | ⟨g, c, cur, e, _, _, h2, h3, _⟩
  · cases e
  · injection e with _ _ e3
    subst e3
    exact ⟨h2, h3⟩
theorem conv_take {w : World} {g n cap base k c : Nat} {bs : List Nat} (hown : w.ownsRow base 5 1 (.slice (some ⟨g, 0, none⟩) n cap) n (bcells bs)) (hk : k ≤ n) :
    (convert 22 9 (.slice (some ⟨g, 0, none⟩) k c)).run Tryd.prog w = .ok (.string (txt (bs.take k))) w := by
  have hl : bs.length = n := by have := hown.1; rw [bcells_len] at this; omega
  refine run_convert_bytes_arg (P := Tryd.prog) w 22 5 Tryd.underlying22 Tryd.underlying5 g 0 k c _ (by simp; omega) ?_ 9 Tryd.underlying9
  intro i hi
  rw [Nat.zero_add, hown.cellAt i (by omega), bcells_at bs i (by omega)]
  have : i < bs.length := by omega
  simp [gt, List.getD_eq_getElem?_getD, this, List.getElem?_take, hi]

/-- a sum: 32 bytes in a row of the call's own -/
def Summed (w : World) (bs : List Nat) (e : Ending) (w' : World) : Prop :=
  ∃ h cap, e = .returned (.slice (some ⟨h, 0, none⟩) 32 cap) ∧ w'.ownsRow w.heap.size 5 1 (.slice (some ⟨h, 0, none⟩) 32 cap) 32 (bcells bs) ∧ Below w.heap.size w w'

set_option maxHeartbeats 1000000 in
theorem sum_any (A : Option Addr) (bs : List Nat) (n c : Nat) (w : World) (hT : Tables w) (hR : Rd w w.heap.size A bs) (hn : bs.length = n) (hnc : n ≤ c) (hc : c ≤ 9223372036854775807) (hm : n ≤ 1000000) :
    Calls Tryd.prog 9 #[.slice A n c] w (Summed w (sum bs)) := by
  have h2 := hT.lt
  have HT := Lib.hid hT; have HR := Lib.hid hR; have HN := Lib.hid (fun _ : Unit => hn); clear hT hR hn
  generalize hX : sum bs = X
  have HX := Lib.hid (fun _ : Unit => hX); clear hX
  go_enter Tryd.func9, Tryd.ntmps9
  go_wp2_with fail
  refine (new_any _ HT.out).mono ?_
  rintro e' w1 ⟨rfl, hS, hB, hz⟩
  have HS := Lib.hid hS; have HB := Lib.hid hB; clear hS hB
  have HT1 := Lib.hid (HT.out.below HB.out h2)
  have HR1 := Lib.hid ((HR.out.below HB.out).apart (Nat.le_refl _) HB.out.size)
  go_wp2_with fail
  refine (write_any w.heap.size start A bs n c _ HS.out good_start HT1.out h2 HR1.out (HN.out ()) hnc hc (by show 0 + n ≤ _; omega)).mono ?_
  rintro e' w2 ⟨rfl, hS2, hG2⟩
  have HS2 := Lib.hid hS2; have HB2 := Lib.hid (below_of_only HB.out hG2 (Nat.le_refl _)); clear hS2 hG2
  have HT2 := Lib.hid (HT.out.below HB2.out h2)
  go_wp2_with fail
  refine (hsum_any w.heap.size _ _ HS2.out (good_takeAll bs good_start HR.out.1) HT2.out (by rw [takeAll_n, HN.out ()]; show 0 + n ≤ _; omega)).mono ?_
  rintro e' w3 ⟨h, cap, rfl, hown, hB3⟩
  have HOWN := Lib.hid hown; have HB3 := Lib.hid (HB2.out.trans (hB3.mono HB2.out.size)); clear hown hB3
  go_wp2
  go_ret
  refine ⟨h, cap, rfl, ?_, HB3.out⟩
  rw [← HX.out ()]
  exact own_lower HOWN.out HB2.out.size

theorem abc_rd (w : World) {B : Nat} (hB : w.heap.size < B) : Rd (w.alloc (.cells #[.int .u8 97, .int .u8 98, .int .u8 99] 5 (3, 4))) B (some ⟨w.heap.size, 0, none⟩) [97, 98, 99] := by
  refine ⟨gt_lt_of_mem (by decide), fun _ => ⟨_, rfl, hB, fun j hj => ?_⟩⟩
  have ha : (⟨w.heap.size, 0, none⟩ : Addr).add j = ⟨w.heap.size, j, none⟩ := by unfold Addr.add; split <;> simp_all
  rw [ha, cell_of_row _ _ j _ 5 (3, 4) (heap_alloc_last w _)]
  have hj3 : j < 3 := hj
  match j, hj3 with
  | 0, _ | 1, _ | 2, _ => rfl
  | n + 3, h => omega

set_option maxHeartbeats 1000000 in
set_option maxRecDepth 100000 in
theorem head_any (w : World) (hT : Tables w) : Calls Tryd.prog 7 #[] w fun e w' => e = .returned (.bool true) ∧ Below w.heap.size w w' := by
  have h2 := hT.lt
  have HT := Lib.hid hT; clear hT
  go_enter Tryd.func7, Tryd.ntmps7
  have hcv : (convert 22 22 (.slice (some ⟨w.heap.size, 0, none⟩) 3 3)).run Tryd.prog (w.alloc (.cells #[.int .u8 97, .int .u8 98, .int .u8 99] 5)) = .ok (.slice (some ⟨w.heap.size, 0, none⟩) 3 3) (w.alloc (.cells #[.int .u8 97, .int .u8 98, .int .u8 99] 5 (3, 4))) := Lib.run_convert_bytes_const w 22 5 _ 3 3 Tryd.underlying22 Tryd.underlying5
  go_wp2_with fail
  have HT0 := Lib.hid (HT.out.alloc (.cells #[.int .u8 97, .int .u8 98, .int .u8 99] 5 (3, 4)))
  have HB0 := Lib.hid ((Below.refl w.heap.size w).alloc (Nat.le_refl _) (.cells #[.int .u8 97, .int .u8 98, .int .u8 99] 5 (3, 4)))
  have HR0 := Lib.hid (abc_rd w (B := (w.alloc (.cells #[.int .u8 97, .int .u8 98, .int .u8 99] 5 (3, 4))).heap.size) (by simp))
  generalize w.alloc (.cells #[.int .u8 97, .int .u8 98, .int .u8 99] 5 (3, 4)) = w0 at *
  refine (sum_any (some ⟨w.heap.size, 0, none⟩) [97, 98, 99] 3 3 w0 HT0.out HR0.out rfl (by omega) (by omega) (by omega)).mono ?_
  rintro e' w1 ⟨h1, cap1, rfl, hown1, hB1⟩
  have hcap1 := (own_cap hown1).1
  have HO1 := Lib.hid hown1; have HB1 := Lib.hid (HB0.out.trans (hB1.mono HB0.out.size)); clear hown1 hB1
  have HT1 := Lib.hid (HT.out.below HB1.out h2)
  go_wp2_with fail
  refine (new_any _ HT1.out).mono ?_
  rintro e' w2 ⟨rfl, hS2, hB2, hz2⟩
  have HO2 := Lib.hid (HO1.out.kept (only_of_below hB2 none) (.inr (by simp [Value.ownBlock])))
  have HS2 := Lib.hid hS2; have HB2 := Lib.hid (HB1.out.trans (hB2.mono HB1.out.size)); clear hS2 hB2
  have HT2 := Lib.hid (HT.out.below HB2.out h2)
  go_wp2_with fail
  refine (hsum_any _ start _ HS2.out good_start HT2.out (by show 0 ≤ _; omega)).mono ?_
  rintro e' w3 ⟨h3, cap3, rfl, hown3, hB3⟩
  have hcap3 := (own_cap hown3).1
  have HO3 := HO2.out.kept (only_of_below hB3 none) (.inr (by simp [Value.ownBlock]))
  have HB3 := Lib.hid (HB2.out.trans (hB3.mono HB2.out.size))
  have hc1 := conv_take (k := 8) (c := cap1) HO3 (by omega)
  have hc2 := conv_take (k := 4) (c := cap3) hown3 (by omega)
  rw [sum_abc] at hc1
  have en : sumOf start = sum [] := rfl
  rw [en, sum_nil] at hc2
  have e1 : txt [186, 120, 22, 191, 143, 1, 207, 234] = ⟨#[186, 120, 22, 191, 143, 1, 207, 234]⟩ := by decide +kernel
  have e2 : txt [227, 176, 196, 66] = ⟨#[227, 176, 196, 66]⟩ := by decide +kernel
  rw [e1] at hc1
  rw [e2] at hc2
  clear e1 e2 en HO3 hown3 hB3
  go_wp2
  go_ret
  exact ⟨rfl, HB3.out⟩

theorem great_any (A : Option Addr) (n c : Nat) (w : World) : Calls Tryd.prog 8 #[.slice A n c] w fun e w' => e = .returned (.bool (decide (20000 < n))) ∧ w = w' := by
  go_enter Tryd.func8, Tryd.ntmps8
  go_wp2
  go_ret
  exact ⟨by simp; omega, rfl⟩
theorem great_yes (A : Option Addr) (n c : Nat) (w : World) (h : 20000 < n) : Calls Tryd.prog 8 #[.slice A n c] w fun e w' => e = .returned (.bool true) ∧ w = w' :=
  (great_any A n c w).mono fun _ _ ⟨e, hw⟩ => ⟨by rw [e, decide_eq_true h], hw⟩
theorem great_no (A : Option Addr) (n c : Nat) (w : World) (h : n ≤ 20000) : Calls Tryd.prog 8 #[.slice A n c] w fun e w' => e = .returned (.bool false) ∧ w = w' :=
  (great_any A n c w).mono fun _ _ ⟨e, hw⟩ => ⟨by rw [e, decide_eq_false (by omega)], hw⟩

end Go.Proofs.YtcgdpjdbfhdkkaaDoor.Sha
