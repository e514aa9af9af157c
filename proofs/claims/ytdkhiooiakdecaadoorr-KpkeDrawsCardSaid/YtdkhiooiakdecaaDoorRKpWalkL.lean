/- Walks: Uniform. -/
import Derived.Test.YtdkhiooiakdecaaDoorRKpWalkK
namespace Go.Proofs.YtdkhiooiakdecaaDoorR.Kp
set_option linter.all false
open Go.RowKit Iter Sm
attribute [local go_sem] Oper.semAt_some

theorem candidates_any (A : Option Addr) (n c : Nat) (w : World) :
    Calls Tryd.prog 22 #[.slice A n c] w fun e w' => e = .returned (.func (.func 36) #[] #[.pointer (some ⟨w.heap.size, 0, none⟩)]) ∧ w' = w.alloc (.cells #[.slice A n c] 22) := by
  go_enter Tryd.func22, Tryd.ntmps22
  go_wp2
  go_ret
  exact ⟨rfl, rfl⟩
/-- what Uniform tells -/
def uniE (bs : List Nat) : Int := if bs.length = 34 then drawE (cands bs) 1120 51 else 1
def uniV (bs : List Nat) : Nat → Int := if bs.length = 34 then drawV (cands bs) 1120 else fun _ => 0
set_option maxHeartbeats 2000000 in
set_option maxRecDepth 100000 in
theorem uniform_all (A : Option Addr) (bs : List Nat) (n c : Nat) (w : World) (hR : Kec.Rd w w.heap.size A bs) (hn : bs.length = n) (hm : n ≤ 9223372036854775807) (hT : Kec.Tables w) :
    Calls Tryd.prog 9 #[.slice A n c] w (PolyErr (uniV bs) (uniE bs) w) := by
  by_cases hl : n = 34
  · have HV : Hid (uniE bs = drawE (cands bs) 1120 51 ∧ uniV bs = drawV (cands bs) 1120) := Lib.hid (by unfold uniE uniV; rw [hn, if_pos hl, if_pos hl]; exact ⟨rfl, rfl⟩)
    obtain ⟨Z, hz, hZ⟩ := zero_poly
    have HZ := Lib.hid hZ
    have hg := heap_alloc_last w (.cells Z 26)
    have HG := Lib.hid hg
    have HB0 := Lib.hid ((Below.refl w.heap.size w).alloc (Nat.le_refl _) (.cells Z 26))
    have HIB := Lib.hid (poly_sized hZ)
    have HR := Lib.hid hR; have HN := Lib.hid hn; have HT := Lib.hid hT
    have h3 := hT.lt
    clear hZ hg hR hn hT
    subst hl
    go_enter Tryd.func9, Tryd.ntmps9
    go_wp2_with fail
    obtain ⟨w0, hw0⟩ : ∃ w0, w.alloc (.cells Z 26) = w0 := ⟨_, rfl⟩
    have hs0 : w0.heap.size = w.heap.size + 1 := by rw [← hw0]; simp
    rw [hw0] at HG HB0
    rw [hw0]
    clear hw0
    refine (candidates_any A 34 c w0).mono ?_
    rintro e' w1 ⟨rfl, hw1⟩
    have hb1 : Below w0.heap.size w0 w1 := by rw [hw1]; exact (Below.refl w0.heap.size w0).alloc (Nat.le_refl _) _
    have hc1 : w1.cell? ⟨w0.heap.size, 0, none⟩ = some (.slice A 34 c) := by rw [hw1, cell_of_row _ _ 0 _ 22 (0, 0) (heap_alloc_last w0 _)]; rfl
    have hs1 : w1.heap.size = w0.heap.size + 1 := by rw [hw1]; simp
    have HB1 := Lib.hid (HB0.out.trans (hb1.mono HB0.out.size))
    have HG1 := Lib.hid ((hb1.block w.heap.size (by omega)).trans HG.out)
    have HC1 := Lib.hid hc1; have HS0 := Lib.hid hs0; have HS1 := Lib.hid hs1
    clear hw1 hb1 hc1 hs0 hs1 HG HB0
    go_wp2_with fail
    refine (drawn_any 36 #[.pointer (some ⟨w0.heap.size, 0, none⟩)] 1120 (cands bs) w1 (enters_of Tryd.func36 (by kernel_rfl) rfl) (cands_lt bs) (fun W X hW hX =>
      cand_hands w0.heap.size A bs 34 c X W (fun k e => by
        have := hX k e; have := HS1.out; have := HS0.out
        refine ⟨by omega, by omega, by omega, fun ad ea => ?_⟩
        obtain ⟨ad', ha', h2, -⟩ := HR.out.2 (by rw [HN.out]; omega)
        rw [ea] at ha'
        cases ha'
        omega) ((hW.cell (p := ⟨w0.heap.size, 0, none⟩) (by show w0.heap.size < w1.heap.size; have := HS1.out; omega)).trans HC1.out)
        ((HR.out.below (HB1.out.trans (hW.mono HB1.out.size))).more (HB1.out.trans (hW.mono HB1.out.size)).size) HN.out (by omega) (HT.out.below (HB1.out.trans (hW.mono HB1.out.size)) h3))).mono ?_
    rintro e' w2 ⟨ds, rfl, hD, hB2⟩
    have HQ := Lib.hid ((hB2.block w.heap.size (Array.getElem?_eq_some_iff.1 HG1.out).1).trans HG1.out)
    have HB2 := Lib.hid (HB1.out.trans (hB2.mono HB1.out.size))
    have HD := Lib.hid hD
    have HI := Lib.hid (poly_sized hD); have HM := Lib.hid (show Z.size = ds.size by rw [HZ.out.1, hD.1])
    clear hD hB2
    rw [← HV.out.1]
    obtain ⟨E, hE⟩ : ∃ E, uniE bs = E := ⟨_, rfl⟩
    rw [hE]
    have HE := Lib.hid hE
    clear hE
    go_wp2_with (refine wpList_store_row rfl 26 (.tmp 2) (.tmp 11) rfl w.heap.size ds rfl rfl 26 Z HQ.out HI.out HM.out HD.out.cells ?_)
    refine bodyPost_ret (v := .tuple #[.agg ds, .int .i64 E]) (results_row_tmp (p := 2) (u := 3) (ty := 26) (by kernel_rfl) _ _ w.heap.size 26 ds (0, 0) _ rfl (setRow_heap _ _ _ _ _ _ HQ.out) Tryd.underlying26 rfl HI.out) rfl ⟨ds, by rw [HE.out], by rw [HV.out.2]; exact HD.out, below_setRow HB2.out (Nat.le_refl _) _⟩
  · have hV : uniE bs = 1 ∧ uniV bs = fun _ => 0 := by unfold uniE uniV; rw [hn, if_neg hl, if_neg hl]; exact ⟨rfl, rfl⟩
    rw [hV.1, hV.2]
    exact uniform_no A n c w hl hm
end Go.Proofs.YtdkhiooiakdecaaDoorR.Kp
