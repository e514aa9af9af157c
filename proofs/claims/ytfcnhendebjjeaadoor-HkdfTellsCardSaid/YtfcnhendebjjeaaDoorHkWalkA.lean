/- Walks: blockOf. -/
import Derived.Test.YtfcnhendebjjeaaDoorHkPlain
import Derived.Test.YtfcnhendebjjeaaDoorShaKit
import Derived.Deep.DeepMust
namespace Go.Proofs.YtfcnhendebjjeaaDoor.Sha
set_option linter.all false
open Go.RowKit

def z64b : List Nat := tab 64 fun _ => 0
theorem z64b_len : z64b.length = 64 := tab_len _ _
def zb : Array Value := (bcells z64b).toArray
theorem zb_size : zb.size = 64 := by simp [zb, bcells_len, z64b_len]
theorem run_zero_block (w : World) : (zeroValue 35).run Tryd.prog w = .ok (.agg zb) w := by
  have h : (Tryd.prog.info? 35).map (·.zero) = some (some (.agg zb)) := by kernel_rfl
  cases hq : Tryd.prog.info? 35 with
  | none => simp [hq] at h
  | some i =>
    have hz : i.zero = some (.agg zb) := by simpa [hq] using h
    simp [zeroValue, typeInfo, hq, hz]
theorem byte_size : (Tryd.prog.info? 5).map (·.size) = some 1 := by kernel_rfl
theorem block_size (bs : List Nat) (h : bs.length = 64) : (Tryd.prog.info? 35).map (·.size) = some (bcells bs).toArray.size := by
  rw [List.size_toArray, bcells_len, h]; kernel_rfl
theorem bcells_one_all (bs : List Nat) : (bcells bs).toArray.all (·.oneCell') = true := by
  rw [Array.all_eq_true_iff_forall_mem]
  intro v hv
  rw [List.mem_toArray] at hv
  exact bcells_one bs v hv
theorem splice_block (key : List Nat) : splice (bcells z64b) 0 (bcells (keyed key)) = bcells (blockK key) := by
  unfold splice
  rw [List.take_zero, List.nil_append, Nat.zero_add]
  have hk := keyed_len key
  have hB : (blockK key).length = 64 := tab_len _ _
  apply List.ext_getElem?
  intro i
  rw [List.getElem?_append]
  by_cases hi : i < 64
  · rw [bcells_at (blockK key) i (by omega), show gt (blockK key) i = gt (keyed key) i from gt_tab _ _ _ hi, bcells_len]
    by_cases h : i < (keyed key).length
    · rw [if_pos h, bcells_at _ _ h]
    · rw [if_neg h, List.getElem?_drop, bcells_at _ _ (by rw [z64b_len]; omega), gt_ge (keyed key) i (by omega)]
      unfold z64b
      rw [gt_tab _ _ _ (by omega)]
  · rw [List.getElem?_eq_none (l := bcells (blockK key)) (by rw [bcells_len]; omega), bcells_len]
    rw [if_neg (by omega), List.getElem?_eq_none (by simp [bcells_len, z64b_len]; omega)]

theorem news_pos {w : World} {B : Nat} {A : Option Addr} {bs ks : List Nat} (h : Rd w B A bs) (e : ks = bs) : 0 < (bcells ks).length → ∃ ad, A = some ad ∧ ∀ j v, (bcells ks)[j]? = some v → w.cell? (ad.add j) = some v := by
  subst e
  intro h0
  rw [bcells_len] at h0
  obtain ⟨ad, e, _, _⟩ := h.2 h0
  subst e
  exact ⟨ad, rfl, news_of_rd h⟩

set_option maxHeartbeats 1000000 in
set_option maxRecDepth 100000 in
theorem blockOf_any (A : Option Addr) (bs : List Nat) (n c : Nat) (w : World) (hT : Tables w) (hR : Rd w w.heap.size A bs) (hn : bs.length = n) (hnc : n ≤ c) (hc : c ≤ 9223372036854775807) (hm : n ≤ 1000000) :
    Calls Tryd.prog 21 #[.slice A n c] w fun e w' => e = .returned (.agg (bcells (blockK bs)).toArray) ∧ Below w.heap.size w w' := by
  have h2 := hT.lt
  have HT := Lib.hid hT; have HR := Lib.hid hR; have HN := Lib.hid (fun _ : Unit => hn); clear hT hR hn
  have HI := Lib.hid (block_size (blockK bs) (tab_len _ _))
  have HSZ := Lib.hid (show zb.size = (bcells (blockK bs)).toArray.size by rw [zb_size, List.size_toArray, bcells_len]; exact (tab_len _ _).symm)
  have HONE := Lib.hid (bcells_one_all (blockK bs))
  have hz := run_zero_block w
  have hz2 := run_zero_block
  have HZ := Lib.hid (splice_block bs)
  by_cases h64 : 64 < n
  · have y0 : (64 : Int) < (n : Int) := by omega
    have HK : Hid (keyed bs = sum bs) := Lib.hid (by unfold keyed; rw [if_pos (by rw [HN.out ()]; exact h64)])
    have HG1 := Lib.hid (heap_alloc_last w (.cells zb 35))
    have HB1 := Lib.hid ((Below.refl w.heap.size w).alloc (Nat.le_refl _) (.cells zb 35))
    have hsz1 : (w.alloc (.cells zb 35)).heap.size = w.heap.size + 1 := by simp
    go_enter Tryd.func21, Tryd.ntmps21
    go_wp2_with fail
    generalize w.alloc (.cells zb 35) = w1 at *
    refine (sum_any A bs n c w1 (HT.out.below HB1.out h2) ((HR.out.below HB1.out).more (by omega)) (HN.out ()) hnc hc hm).mono ?_
    rintro e' w2 ⟨h, cap, rfl, hown, hB2⟩
    have HOWN := Lib.hid hown
    have HB2 := Lib.hid (HB1.out.trans (hB2.mono (by omega)))
    have HG2 := Lib.hid ((hB2.block w.heap.size (by omega)).trans HG1.out)
    have hs2 := HB2.out.size
    have hw2 : w.heap.size < w2.heap.size := by have := hB2.size; omega
    clear hown hB2 HG1 HB1
    have HG := Lib.hid (heap_alloc_last w2 (.cells zb 35))
    have HB := Lib.hid (HB2.out.alloc hs2 (.cells zb 35))
    have HBn := Lib.hid ((Below.refl w2.heap.size w2).alloc (Nat.le_refl _) (.cells zb 35))
    have HG3 := Lib.hid ((Below.heap_alloc w2 (.cells zb 35) w.heap.size hw2).trans HG2.out)
    have HRb := Lib.hid ((rd_of_own HOWN.out (sum_lt bs) (Nat.le_refl _)).below ((Below.refl w2.heap.size w2).alloc (Nat.le_refl _) (.cells zb 35)))
    have HPS := Lib.hid (news_pos HRb.out HK.out)
    have hz3 := run_zero_block w2
    go_wp2_with (refine wpList_copy_splice rfl (.tmp 9) (.tmp 10) 22 22 rfl 5 Tryd.underlying22 byte_size _ (some ⟨h, 0, none⟩) 64 64 32 cap rfl rfl w2.heap.size 0 (bcells z64b) 35 HG.out (bcells (keyed bs)) (by rw [bcells_len, HK.out, sum_len]; rfl) (fun h0 => ⟨rfl, HPS.out h0⟩) (by rw [bcells_len, bcells_len, z64b_len]; have := keyed_len bs; omega) (bcells_one _) w2.heap.size w2 HBn.out (Nat.le_refl _) ?_)
    intro w3 HG4 hB3
    rw [HZ.out] at HG4
    have HG5 := Lib.hid ((hB3.block w.heap.size hw2).trans HG2.out)
    have HB3 := Lib.hid (HB2.out.trans (hB3.mono hs2))
    clear hB3 HG HG2 HG3 HB HRb HPS HBn
    go_wp2_with (first | (refine wpList_load_row rfl 35 (.tmp 3) rfl w2.heap.size rfl 35 (bcells (blockK bs)).toArray (0, 0) _ HG4.out Tryd.underlying35 rfl HI.out ?_) | (refine wpList_store_row rfl 35 (.tmp 2) (.tmp 12) rfl w.heap.size (bcells (blockK bs)).toArray rfl rfl 35 zb HG5.out HI.out HSZ.out HONE.out ?_))
    refine bodyPost_ret (v := .agg (bcells (blockK bs)).toArray) (results_cell_row (p := 2) (ty := 35) (by kernel_rfl) _ _ w.heap.size 35 (bcells (blockK bs)).toArray (0, 0) _ rfl (setRow_heap _ _ _ _ _ _ HG5.out) Tryd.underlying35 rfl HI.out) rfl ⟨rfl, below_setRow HB3.out (Nat.le_refl _) _⟩
  · have hm0 : Nat.min n 64 = n := Nat.min_eq_left (by omega)
    have y0 : ¬ (64 : Int) < (n : Int) := by omega
    have HK : Hid (keyed bs = bs) := Lib.hid (by unfold keyed; rw [if_neg (by rw [HN.out ()]; exact h64)])
    have HG := Lib.hid (heap_alloc_last (w.alloc (.cells zb 35)) (.cells zb 35))
    have HB := Lib.hid (((Below.refl w.heap.size w).alloc (Nat.le_refl _) (.cells zb 35)).alloc (by simp) (.cells zb 35))
    have HG1 := Lib.hid ((Below.heap_alloc (w.alloc (.cells zb 35)) (.cells zb 35) w.heap.size (by simp)).trans (heap_alloc_last w (.cells zb 35)))
    have HRb := Lib.hid (HR.out.below HB.out)
    have HPS := Lib.hid (news_pos HRb.out HK.out)
    have hsz1 : (w.alloc (.cells zb 35)).heap.size = w.heap.size + 1 := by simp
    rw [hsz1] at HG
    go_enter Tryd.func21, Tryd.ntmps21
    go_wp2_with (refine wpList_copy_splice rfl (.tmp 9) (.tmp 10) 22 22 rfl 5 Tryd.underlying22 byte_size _ A 64 64 n c rfl rfl (w.heap.size + 1) 0 (bcells z64b) 35 HG.out (bcells (keyed bs)) (by rw [bcells_len, HK.out, HN.out ()]; exact hm0.symm) (fun h0 => ⟨rfl, HPS.out h0⟩) (by rw [bcells_len, bcells_len, z64b_len]; have := keyed_len bs; omega) (bcells_one _) (w.heap.size + 1) _ (Below.refl _ _) (Nat.le_refl _) ?_)
    intro w1 HG2 hB2
    rw [HZ.out] at HG2
    have HG3 := Lib.hid ((hB2.block w.heap.size (by omega)).trans HG1.out)
    have HB3 := Lib.hid (HB.out.trans (hB2.mono (by omega)))
    clear hB2 HG HG1 HB HRb
    go_wp2_with (first | (refine wpList_load_row rfl 35 (.tmp 3) rfl (w.heap.size + 1) rfl 35 (bcells (blockK bs)).toArray (0, 0) _ HG2.out Tryd.underlying35 rfl HI.out ?_) | (refine wpList_store_row rfl 35 (.tmp 2) (.tmp 12) rfl w.heap.size (bcells (blockK bs)).toArray rfl rfl 35 zb HG3.out HI.out HSZ.out HONE.out ?_))
    refine bodyPost_ret (v := .agg (bcells (blockK bs)).toArray) (results_cell_row (p := 2) (ty := 35) (by kernel_rfl) _ _ w.heap.size 35 (bcells (blockK bs)).toArray (0, 0) _ rfl (setRow_heap _ _ _ _ _ _ HG3.out) Tryd.underlying35 rfl HI.out) rfl ⟨rfl, below_setRow HB3.out (Nat.le_refl _) _⟩
end Go.Proofs.YtfcnhendebjjeaaDoor.Sha
