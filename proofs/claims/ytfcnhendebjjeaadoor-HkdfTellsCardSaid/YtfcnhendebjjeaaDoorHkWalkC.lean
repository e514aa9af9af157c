/- Walks: tag, Mac, Extract. -/
import Derived.Test.YtfcnhendebjjeaaDoorHkWalkB
namespace Go.Proofs.YtfcnhendebjjeaaDoor.Sha
set_option linter.all false
open Go.RowKit
attribute [local go_sem ↓] Go.wp_at_zero Go.wp_at_succ

/-- a block that is loaded whole -/
def Whole (g : Nat) (k : List Nat) (w : World) : Prop := (Instr.loadAt 35 (.pointer (some ⟨g, 0, none⟩))).run Tryd.prog w = .ok (.agg (bcells k).toArray) w
theorem whole_of_heap {w : World} {g : Nat} {k : List Nat} (hk : k.length = 64) (h : w.heap[g]? = some (.cells (bcells k).toArray 35 (0, 0))) : Whole g k w := by
  unfold Whole
  simp only [Instr.loadAt, Instr.sureAddr, Sem.run_bind, Sem.run_pure, Result.andThen]
  exact run_loadVar_row _ _ 35 35 _ (0, 0) _ h Tryd.underlying35 rfl (block_size k hk)
theorem whole_run {g : Nat} {k : List Nat} {w : World} (h : Whole g k w) {ev : Operand → Value} {o : Oper} {p : Operand} (ho : o.op = .load 35 p) (hp : ev p = .pointer (some ⟨g, 0, none⟩)) :
    (execOp ev o).run Tryd.prog w = .ok (.value (.agg (bcells k).toArray)) w := by
  unfold Whole at h
  unfold execOp
  simp only [ho, hp, Sem.run_bind, h, Result.andThen_ok, Sem.run_pure]
theorem parts_one (w : World) (p : Pt) (h : p.Lies w) : Parts (w.alloc (.cells #[.slice p.A p.n p.c] 22)) w.heap.size [p] := by
  intro j q hq
  match j, hq with
  | 0, hq =>
    obtain rfl : p = q := by simpa using hq
    exact ⟨by rw [cell_of_row _ _ 0 _ 22 (0, 0) (heap_alloc_last w _)]; rfl, h.below ((Below.refl _ _).alloc (Nat.le_refl _) _)⟩
  | _ + 1, hq => simp at hq

set_option maxHeartbeats 1000000 in
set_option maxRecDepth 100000 in
theorem tag_any (k : List Nat) (ps : List Pt) (g N cap : Nat) (w : World) (hT : Tables w) (hk : Ok 256 64 k) (hP : Parts w g ps) (hN : ps.length = N) (hNm : N ≤ 1000) (htot : total ps ≤ 1000000) :
    Calls Tryd.prog 22 #[.agg (bcells k).toArray, .slice (some ⟨g, 0, none⟩) N cap] w (Summed w (tag k (joined ps))) := by
  have h2 := hT.lt
  have HT := Lib.hid hT; have HK := Lib.hid hk; have HP := Lib.hid hP; have HN := Lib.hid (fun _ : Unit => hN); clear hT hk hP hN
  have HG0 := Lib.hid (heap_alloc_last w (.cells (bcells k).toArray 35))
  have HB0 := Lib.hid ((Below.refl w.heap.size w).alloc (Nat.le_refl _) (.cells (bcells k).toArray 35))
  generalize hX : tag k (joined ps) = X
  have HX := Lib.hid (fun _ : Unit => hX); clear hX
  go_enter Tryd.func22, Tryd.ntmps22
  go_wp2_with fail
  generalize w.alloc (.cells (bcells k).toArray 35) = W0 at *
  refine region_calm ?_
  refine wp_region_any (by kernel_rfl) ?_
  change wpAny _ _ _ _ _ _ _ (World.drew _)
  replace HB0 := Lib.hid (Below.drew HB0.out)
  replace HG0 := Lib.hid (show W0.drew.heap[w.heap.size]? = _ from HG0.out)
  generalize W0.drew = wd at *
  have hlt : w.heap.size < wd.heap.size := (Array.getElem?_eq_some_iff.1 HG0.out).1
  have hS := whole_of_heap HK.out.1 HG0.out
  refine wpAny_of_held (S := Whole w.heap.size k) _ _ _ _ ?_
  refine wpAnyH_take (i := 0) (v := (.agg (bcells k).toArray)) rfl (by kernel_rfl) (by kernel_rfl) (by kernel_rfl) (fun _ _ _ h => h) (Or.inl ⟨by rfl, ?y0⟩) hS ?r0
  case y0 => (intro w' hSw; exact whole_run hSw rfl rfl)
  simp only [List.getElem_toArray, List.getElem_cons_succ, List.getElem_cons_zero, Act.put, List.setIfInBounds_toArray, List.set_cons_zero, List.set_cons_succ]
  refine wpAnyH_take (i := 1) (v := (.agg (bcells k).toArray)) rfl (by kernel_rfl) (by kernel_rfl) (by kernel_rfl) (fun _ _ _ h => h) (Or.inl ⟨by rfl, ?y1⟩) hS ?r1
  case y1 => (intro w' hSw; exact whole_run hSw rfl rfl)
  simp only [List.getElem_toArray, List.getElem_cons_succ, List.getElem_cons_zero, Act.put, List.setIfInBounds_toArray, List.set_cons_zero, List.set_cons_succ]
  refine wpAnyH_take (i := 2) (v := ?v2) rfl (by kernel_rfl) (by kernel_rfl) (by kernel_rfl) (fun _ _ _ h => h) (Or.inl ⟨by rfl, ?y2⟩) hS ?r2
  case y2 => (intro w hSw; clear hSw; go_simp; try with_reducible rfl)
  simp only [List.getElem_toArray, List.getElem_cons_succ, List.getElem_cons_zero, Act.put, List.setIfInBounds_toArray, List.set_cons_zero, List.set_cons_succ]
  refine wpAnyH_ready (rs := [3]) (by kernel_rfl) (by simp) ?_
  refine AllReadyH.cons rfl (fun K hK => ?_) AllReadyH.nil
  simp only [List.getElem_toArray, List.getElem_cons_succ, List.getElem_cons_zero]
  go_simp
  refine (bsum_any k 54 ps g N cap _ (HT.out.below HB0.out h2) HK.out (by omega) (HP.out.below HB0.out) (HN.out ()) hNm htot).mono ?_
  rintro e' w1 ⟨h1, c1, rfl, hown, hB1⟩
  have HO1 := Lib.hid hown; have HB1 := Lib.hid (HB0.out.trans (hB1.mono HB0.out.size)); have HG1 := Lib.hid ((hB1.block w.heap.size hlt).trans HG0.out); have hlt1 : w.heap.size < w1.heap.size := by have := hB1.size; omega
  clear hown hB1
  have hcp := own_cap HO1.out
  unfold maxLen at hcp
  have hlies : Pt.Lies w1 ⟨some ⟨h1, 0, none⟩, 32, c1, sum (xored k 54 ++ joined ps)⟩ := ⟨rd_of_own HO1.out (sum_lt _) (Nat.le_refl _), sum_len _, hcp.1, hcp.2⟩
  have HP1 := Lib.hid (parts_one w1 _ hlies)
  have HBa := Lib.hid (HB1.out.alloc HB1.out.size (.cells #[.slice (some ⟨h1, 0, none⟩) 32 c1] 22))
  have HGa := Lib.hid ((Below.heap_alloc w1 (.cells #[.slice (some ⟨h1, 0, none⟩) 32 c1] 22) w.heap.size hlt1).trans HG1.out)
  refine hK.out _ _ (whole_of_heap HK.out.1 HG1.out) (fun _ => ?_)
  clear hK K
  try simp only [List.getElem_toArray, List.getElem_cons_succ, List.getElem_cons_zero, Act.put, List.setIfInBounds_toArray, List.set_cons_zero, List.set_cons_succ]
  refine wpAnyH_ready (rs := [4]) (by kernel_rfl) (by simp) ?_
  refine AllReadyH.cons rfl (fun K hK => ?_) AllReadyH.nil
  simp only [List.getElem_toArray, List.getElem_cons_succ, List.getElem_cons_zero]
  go_simp
  refine hK.out _ _ (whole_of_heap HK.out.1 HGa.out) (fun _ => ?_)
  clear hK K
  try simp only [List.getElem_toArray, List.getElem_cons_succ, List.getElem_cons_zero, Act.put, List.setIfInBounds_toArray, List.set_cons_zero, List.set_cons_succ]
  refine wpAnyH_ready (rs := [5]) (by kernel_rfl) (by simp) ?_
  refine AllReadyH.cons rfl (fun K hK => ?_) AllReadyH.nil
  simp only [List.getElem_toArray, List.getElem_cons_succ, List.getElem_cons_zero]
  go_simp
  refine (bsum_any k 92 [⟨some ⟨h1, 0, none⟩, 32, c1, sum (xored k 54 ++ joined ps)⟩] w1.heap.size 1 1 _ (HT.out.below HBa.out h2) HK.out (by omega) HP1.out rfl (by omega) (by show 32 + 0 ≤ _; omega)).mono ?_
  rintro e' w2 ⟨h3, c3, rfl, hown, hB2⟩
  have HO2 := Lib.hid hown; have HB2 := Lib.hid (HBa.out.trans (hB2.mono HBa.out.size)); have HG2 := Lib.hid ((hB2.block w.heap.size (by simp; omega)).trans HGa.out); clear hown hB2
  refine hK.out _ _ (whole_of_heap HK.out.1 HG2.out) (fun _ => ?_)
  clear hK K
  try simp only [List.getElem_toArray, List.getElem_cons_succ, List.getElem_cons_zero, Act.put, List.setIfInBounds_toArray, List.set_cons_zero, List.set_cons_succ]
  refine wpAnyH_take (i := 6) (v := ?v6) rfl (by kernel_rfl) (by kernel_rfl) (by kernel_rfl) (fun _ _ _ h => h) (Or.inl ⟨by rfl, ?y6⟩) (whole_of_heap HK.out.1 HG2.out) ?r6
  case y6 => (intro w hSw; clear hSw; go_simp; try with_reducible rfl)
  simp only [List.getElem_toArray, List.getElem_cons_succ, List.getElem_cons_zero, Act.put, List.setIfInBounds_toArray, List.set_cons_zero, List.set_cons_succ]
  refine wpAnyH_done (by kernel_rfl) ?_ _
  change Exit.then _ _ Exit.normal _ _
  go_wp2
  go_ret
  refine ⟨h3, c3, rfl, ?_, HB2.out⟩
  rw [← HX.out ()]
  have e : tag k (joined ps) = sum (xored k 92 ++ joined [⟨some ⟨h1, 0, none⟩, 32, c1, sum (xored k 54 ++ joined ps)⟩]) := by
    show sum (xored k 92 ++ sum _) = sum (xored k 92 ++ (sum _ ++ [])); rw [List.append_nil]
  rw [e]
  exact own_lower HO2.out HBa.out.size

set_option maxHeartbeats 1000000 in
set_option maxRecDepth 100000 in
theorem mac_any (A A2 : Option Addr) (key t : List Nat) (n c n2 c2 : Nat) (w : World) (hT : Tables w) (hR : Rd w w.heap.size A key) (hn : key.length = n) (hnc : n ≤ c) (hc : c ≤ 9223372036854775807) (hm : n ≤ 100000)
    (hR2 : Rd w w.heap.size A2 t) (hn2 : t.length = n2) (hnc2 : n2 ≤ c2) (hc2 : c2 ≤ 9223372036854775807) (hm2 : n2 ≤ 100000) :
    Calls Tryd.prog 11 #[.slice A n c, .slice A2 n2 c2] w (Summed w (mac key t)) := by
  have h2 := hT.lt
  have HT := Lib.hid hT; have HR := Lib.hid hR; have HN := Lib.hid (fun _ : Unit => hn); have HR2 := Lib.hid hR2; have HN2 := Lib.hid (fun _ : Unit => hn2); clear hT hR hn hR2 hn2
  go_enter Tryd.func11, Tryd.ntmps11
  go_wp2_with fail
  refine (blockOf_any A key n c _ HT.out HR.out (HN.out ()) hnc hc (by omega)).mono ?_
  rintro e' w1 ⟨rfl, hB1⟩
  have HB1 := Lib.hid hB1; clear hB1
  have hlies : Pt.Lies w1 ⟨A2, n2, c2, t⟩ := ⟨(HR2.out.below HB1.out).more HB1.out.size, HN2.out (), hnc2, hc2⟩
  have HP1 := Lib.hid (parts_one w1 _ hlies)
  have HBa := Lib.hid (HB1.out.alloc HB1.out.size (.cells #[.slice A2 n2 c2] 22))
  have HO := Lib.hid (ok_blockK HR.out.1)
  clear hlies
  go_wp2_with fail
  refine (tag_any (blockK key) [⟨A2, n2, c2, t⟩] w1.heap.size 1 1 _ (HT.out.below HBa.out h2) HO.out HP1.out rfl (by omega) (by show n2 + 0 ≤ _; omega)).mono ?_
  rintro e' w2 ⟨h3, c3, rfl, hown, hB2⟩
  have HO2 := Lib.hid hown; have HB2 := Lib.hid (HBa.out.trans (hB2.mono HBa.out.size)); clear hown hB2
  go_wp2
  go_ret
  refine ⟨h3, c3, rfl, ?_, HB2.out⟩
  have e : mac key t = tag (blockK key) (joined [⟨A2, n2, c2, t⟩]) := by
    show tag _ _ = tag _ (t ++ []); rw [List.append_nil]
  rw [e]
  exact own_lower HO2.out HBa.out.size

set_option maxHeartbeats 1000000 in
theorem extract_any (A A2 : Option Addr) (key t : List Nat) (n c n2 c2 : Nat) (w : World) (hT : Tables w) (hR : Rd w w.heap.size A key) (hn : key.length = n) (hnc : n ≤ c) (hc : c ≤ 9223372036854775807) (hm : n ≤ 100000)
    (hR2 : Rd w w.heap.size A2 t) (hn2 : t.length = n2) (hnc2 : n2 ≤ c2) (hc2 : c2 ≤ 9223372036854775807) (hm2 : n2 ≤ 100000) :
    Calls Tryd.prog 12 #[.slice A n c, .slice A2 n2 c2] w (Summed w (mac key t)) := by
  have HT := Lib.hid hT; have HR := Lib.hid hR; have HN := Lib.hid (fun _ : Unit => hn); have HR2 := Lib.hid hR2; have HN2 := Lib.hid (fun _ : Unit => hn2); clear hT hR hn hR2 hn2
  go_enter Tryd.func12, Tryd.ntmps12
  go_wp2_with fail
  refine (mac_any A A2 key t n c n2 c2 _ HT.out HR.out (HN.out ()) hnc hc hm HR2.out (HN2.out ()) hnc2 hc2 hm2).mono ?_
  rintro e' w2 ⟨h3, c3, rfl, hown, hB2⟩
  have HO2 := Lib.hid hown; have HB2 := Lib.hid hB2; clear hown hB2
  go_wp2
  go_ret
  exact ⟨h3, c3, rfl, HO2.out, HB2.out⟩

end Go.Proofs.YtfcnhendebjjeaaDoor.Sha
