/- Walks: Sha2Parts. -/
import Derived.Test.YtcgdpjdbfhdkkaaDoorShaWalkG
import Derived.Test.YtcgdpjdbfhdkkaaDoorShaRow
import Derived.IntWalk
import Derived.Deep.RegionHeld3
namespace Go.Proofs.YtcgdpjdbfhdkkaaDoor.Sha
open Go.RowKit
attribute [local go_sem ↓] Go.wp_at_zero Go.wp_at_succ

theorem wpAnyH_more {P : Program} {md : Region.Mode} {ops : Array Oper} {Q : Exit → Act → World → Prop} {S S' : World → Prop} (h : ∀ w, S' w → S w) : ∀ (fuel : Nat) (listed : Array Bool) (a : Act) (w : World), wpAnyH P md ops Q S' fuel listed a w → wpAnyH P md ops Q S fuel listed a w
  | 0, _, _, _, h' => h'
  | fuel + 1, _, _, _, h' => ⟨h'.1, fun i hi => wpOp_mono (fun a' w' k => ⟨h _ k.1, wpAnyH_more h fuel _ a' w' k.2⟩) (h'.2 i hi)⟩
theorem rn_of_own {w : World} {base g n cap q : Nat} {xs : List Nat} (hown : w.ownsRow base 5 1 (.slice (some ⟨g, 0, none⟩) n cap) n (bcells xs)) (hx : ∀ j, gt xs j < 256) (hne : g ≠ q) : Rn w q (some ⟨g, 0, none⟩) xs := by
  have hl : xs.length = n := by have := hown.1; rw [bcells_len] at this; omega
  refine ⟨hx, fun _ => ⟨_, rfl, hne, (hown.lt g rfl).2, fun j hj => ?_⟩⟩
  have ha : (⟨g, 0, none⟩ : Addr).add j = ⟨g, j, none⟩ := by unfold Addr.add; split <;> simp_all
  rw [ha, hown.cellAt j (by omega), bcells_at xs j hj]
theorem own_below {w w' : World} {base B g n cap : Nat} {xs : List Value} (h : w.ownsRow base 5 1 (.slice (some ⟨g, 0, none⟩) n cap) n xs) (hb : Below B w w') (hB : w.heap.size ≤ B) : w'.ownsRow base 5 1 (.slice (some ⟨g, 0, none⟩) n cap) n xs :=
  h.kept ⟨hb.os, hb.tape, hb.output, hb.size, fun i hi _ => hb.block i (by omega)⟩ (.inr (by simp [Value.ownBlock] : Value.ownBlock _ ≠ none))

set_option maxHeartbeats 4000000 in
set_option maxRecDepth 100000 in
theorem parts_walk (A A2 A3 : Option Addr) (a b c : List Nat) (na nb nc ca cb cc : Nat) (w : World) (hT : Tables w) (hRa : Rd w w.heap.size A a) (hRb : Rd w w.heap.size A2 b) (hRc : Rd w w.heap.size A3 c) (hna : a.length = na) (hnb : b.length = nb) (hnc : c.length = nc)
    (hca : A = none → ca = 0) (hcb : A2 = none → cb = 0) (hcc : A3 = none → cc = 0) (hla : na ≤ ca) (hlb : nb ≤ cb) (hlc : nc ≤ cc) (hxa : ca ≤ 9223372036854775807) (hxb : cb ≤ 9223372036854775807) (hxc : cc ≤ 9223372036854775807) (hma : na ≤ 20000) (hmb : nb ≤ 20000) (hmc : nc ≤ 20000) :
    Calls Tryd.prog 5 #[.slice A na ca, .slice A2 nb cb, .slice A3 nc cc] w fun e w' => e = .returned (.bool true) ∧ Below w.heap.size w w' := by
  have h2 := hT.lt
  have HT := Lib.hid hT; have HRa := Lib.hid hRa; have HRb := Lib.hid hRb; have HRc := Lib.hid hRc; have HNa := Lib.hid (fun _ : Unit => hna); have HNb := Lib.hid (fun _ : Unit => hnb); have HNc := Lib.hid (fun _ : Unit => hnc)
  have HCa := Lib.hid hca; have HCb := Lib.hid hcb; have HCc := Lib.hid hcc; clear hT hRa hRb hRc hna hnb hnc hca hcb hcc
  go_enter Tryd.func5, Tryd.ntmps5
  go_wp2_with fail
  refine (head_any _ HT.out).mono ?_
  rintro e' w1 ⟨rfl, hB1⟩
  have HB1 := Lib.hid hB1; clear hB1
  go_wp2_with fail
  refine (great_no _ _ _ _ hma).mono ?_
  rintro e' w2 ⟨rfl, rfl⟩
  go_wp2_with fail
  refine (great_no _ _ _ _ hmb).mono ?_
  rintro e' w2 ⟨rfl, rfl⟩
  go_wp2_with fail
  refine (great_no _ _ _ _ hmc).mono ?_
  rintro e' w2 ⟨rfl, rfl⟩
  go_wp2_with fail
  refine (new_any _ (HT.out.below HB1.out h2)).mono ?_
  rintro e' w2 ⟨rfl, hS, hB, hz⟩
  have HX2 := Lib.hid hS; have HB2 := Lib.hid (HB1.out.trans (hB.mono HB1.out.size)); clear hS hB hz
  have hwx := HB1.out.size
  generalize w1.heap.size = x at *
  have hx2 : x < w2.heap.size := HX2.out.lt
  go_wp2_with fail
  refine (new_any _ (HT.out.below HB2.out h2)).mono ?_
  rintro e' w3 ⟨rfl, hS, hB, hz⟩
  have HX3 := Lib.hid (HX2.out.below hB hx2)
  have HY3 := Lib.hid hS; have HB3 := Lib.hid (HB2.out.trans (hB.mono HB2.out.size)); clear hS hB hz
  generalize w2.heap.size = y at *
  have hxy : x ≠ y := by omega
  have hwy : w.heap.size ≤ y := by omega
  have HDx : Hid (Good start) := Lib.hid good_start
  have HDy : Hid (Good start) := Lib.hid good_start
  have hn0 : start.n = 0 := rfl
  go_wp2_with fail
  refine (write_any x start A a na ca _ HX3.out HDx.out (HT.out.below HB3.out h2) (by omega) ((HRa.out.below HB3.out).apart (by omega) HB3.out.size) (by simp [HNa.out (), HNb.out (), HNc.out ()]) (by omega) (by omega) (by omega)).mono ?_
  rintro e' w4 ⟨rfl, hS, hG⟩
  have HX4 := Lib.hid hS; have HY4 := Lib.hid (HY3.out.grown hG (by intro e; injection e with e; omega)); have HB4 := Lib.hid (below_of_only HB3.out hG (by omega)); clear hS hG
  replace HDx := Lib.hid (good_takeAll a HDx.out HRa.out.1)
  have hn1 : (takeAll start a).n = na := by rw [takeAll_n, HNa.out (), hn0]; omega
  have HST := Lib.hid (fun _ : Unit => (by rw [takeAll_append, takeAll_append] : takeAll start (a ++ (b ++ c)) = takeAll (takeAll (takeAll start a) b) c))
  have HST2 := Lib.hid (fun _ : Unit => (by rw [takeAll_append] : takeAll start (a ++ b) = takeAll (takeAll start a) b))
  generalize takeAll start a = s1 at *
  go_wp2_with fail
  refine (hsum_any x s1 _ HX4.out HDx.out (HT.out.below HB4.out h2) (by omega)).mono ?_
  rintro e' w5 ⟨hq, capq, rfl, _, hB5⟩
  have HX5 := Lib.hid (HX4.out.below hB5 HX4.out.lt); have HY5 := Lib.hid (HY4.out.below hB5 HY4.out.lt); have HB5 := Lib.hid (HB4.out.trans (hB5.mono HB4.out.size)); clear hB5
  go_wp2_with fail
  refine (write_any x s1 A2 b nb cb _ HX5.out HDx.out (HT.out.below HB5.out h2) (by omega) ((HRb.out.below HB5.out).apart (by omega) HB5.out.size) (by simp [HNa.out (), HNb.out (), HNc.out ()]) (by omega) (by omega) (by omega)).mono ?_
  rintro e' w6 ⟨rfl, hS, hG⟩
  have HX6 := Lib.hid hS; have HY6 := Lib.hid (HY5.out.grown hG (by intro e; injection e with e; omega)); have HB6 := Lib.hid (below_of_only HB5.out hG (by omega)); clear hS hG
  replace HDx := Lib.hid (good_takeAll b HDx.out HRb.out.1)
  have hn2 : (takeAll s1 b).n = na + nb := by rw [takeAll_n, HNb.out (), hn1]
  generalize takeAll s1 b = s2 at *
  go_wp2_with fail
  refine (write_any x s2 A3 c nc cc _ HX6.out HDx.out (HT.out.below HB6.out h2) (by omega) ((HRc.out.below HB6.out).apart (by omega) HB6.out.size) (by simp [HNa.out (), HNb.out (), HNc.out ()]) (by omega) (by omega) (by omega)).mono ?_
  rintro e' w7 ⟨rfl, hS, hG⟩
  have HX7 := Lib.hid hS; have HY7 := Lib.hid (HY6.out.grown hG (by intro e; injection e with e; omega)); have HB7 := Lib.hid (below_of_only HB6.out hG (by omega)); clear hS hG
  replace HDx := Lib.hid (good_takeAll c HDx.out HRc.out.1)
  have hn3 : (takeAll s2 c).n = na + nb + nc := by rw [takeAll_n, HNc.out (), hn2]
  have hx7 : x < w7.heap.size := HX7.out.lt
  have hy7 : y < w7.heap.size := HY7.out.lt
  have HNIL : Hid ((w7.alloc (.cells #[] 5)).ownsRow w7.heap.size 5 1 (.slice (some ⟨w7.heap.size, 0, none⟩) 0 0) 0 (bcells [])) := Lib.hid (World.ownsRow_made w7 #[] 0 (Nat.le_refl _) (by unfold maxLen; omega) rfl)
  have HB7a := Lib.hid (HB7.out.alloc HB7.out.size (.cells #[] 5))
  have HX7a := Lib.hid (HX7.out.alloc (.cells #[] 5)); have HY7a := Lib.hid (HY7.out.alloc (.cells #[] 5))
  have hz7 : (w7.alloc (.cells #[] 5)).heap.size = w7.heap.size + 1 := by simp
  go_wp2_with (at_builtin; refine wpList_append_rd rfl (.tmp 43) (.tmp 44) rfl w7.heap.size w7.heap.size 0 0 na ca w.heap.size [] a A rfl rfl HNIL.out (HRa.out.below HB7a.out) (HNa.out ()) HCa.out (by omega) (by rw [hz7]; omega) ?_)
  intro g1 cap1 w8 hown1 hgrow1 hat1
  try rw [hz7] at hat1
  have hg1 : w7.heap.size ≤ g1 := by rcases hat1 with rfl | rfl <;> omega
  have HO8 := Lib.hid hown1; have HB8 := Lib.hid (below_of_only HB7a.out hgrow1 HB7.out.size)
  have HX8 := Lib.hid (HX7a.out.grown hgrow1 (by intro e; injection e with e; omega)); have HY8 := Lib.hid (HY7a.out.grown hgrow1 (by intro e; injection e with e; omega))
  have hz8 : w7.heap.size + 1 ≤ w8.heap.size := by have := hgrow1.size; omega
  clear hown1 hgrow1 hat1 HNIL HB7a HX7a HY7a
  go_wp2_with (at_builtin; refine wpList_append_rd rfl (.tmp 45) (.tmp 46) rfl w7.heap.size g1 na cap1 nb cb w.heap.size a b A2 rfl rfl HO8.out (HRb.out.below HB8.out) (HNb.out ()) HCb.out (by omega) (by omega) ?_)
  intro g2 cap2 w9 hown2 hgrow2 hat2
  have hg2 : w7.heap.size ≤ g2 := by rcases hat2 with rfl | rfl <;> omega
  have HO9 := Lib.hid hown2; have HB9 := Lib.hid (below_of_only HB8.out hgrow2 (by have := HB7.out.size; omega))
  have HX9 := Lib.hid (HX8.out.grown hgrow2 (by intro e; injection e with e; omega)); have HY9 := Lib.hid (HY8.out.grown hgrow2 (by intro e; injection e with e; omega))
  have hcp := own_cap hown2
  unfold maxLen at hcp
  have hz9 : w7.heap.size + 1 ≤ w9.heap.size := by have := hgrow2.size; omega
  clear hown2 hgrow2 hat2
  go_wp2_with fail
  refine (write_any y start (some ⟨g2, 0, none⟩) (a ++ b) (na + nb) cap2 _ HY9.out HDy.out (HT.out.below HB9.out h2) (by omega) (rn_of_own HO9.out (gt_append_lt HRa.out.1 HRb.out.1) (by omega)) (by simp [HNa.out (), HNb.out (), HNc.out ()]) (by omega) (by omega) (by omega)).mono ?_
  rintro e' w10 ⟨rfl, hS, hG⟩
  have HY10 := Lib.hid hS; have HX10 := Lib.hid (HX9.out.grown hG (by intro e; injection e with e; omega)); have HB10 := Lib.hid (below_of_only HB9.out hG (by omega)); clear hS hG
  replace HDy := Lib.hid (good_takeAll (a ++ b) HDy.out (gt_append_lt HRa.out.1 HRb.out.1))
  rw [HST2.out ()] at HY10 HDy
  go_wp2_with fail
  refine (write_any y s2 A3 c nc cc _ HY10.out HDy.out (HT.out.below HB10.out h2) (by omega) ((HRc.out.below HB10.out).apart (by omega) HB10.out.size) (by simp [HNa.out (), HNb.out (), HNc.out ()]) (by omega) (by omega) (by omega)).mono ?_
  rintro e' w11 ⟨rfl, hS, hG⟩
  have HY11 := Lib.hid hS; have HX11 := Lib.hid (HX10.out.grown hG (by intro e; injection e with e; omega)); have HB11 := Lib.hid (below_of_only HB10.out hG (by omega)); clear hS hG
  have HSUM : Hid (Unit → sum (a ++ (b ++ c)) = sumOf (takeAll s2 c)) := Lib.hid fun _ => by rw [← HST.out ()]; rfl
  generalize takeAll s2 c = s3 at *
  clear HST HST2 HDy
  have hx11 : x < w11.heap.size := HX11.out.lt
  have hy11 : y < w11.heap.size := HY11.out.lt
  have HNIL : Hid ((w11.alloc (.cells #[] 5)).ownsRow w11.heap.size 5 1 (.slice (some ⟨w11.heap.size, 0, none⟩) 0 0) 0 (bcells [])) := Lib.hid (World.ownsRow_made w11 #[] 0 (Nat.le_refl _) (by unfold maxLen; omega) rfl)
  have HB11a := Lib.hid (HB11.out.alloc HB11.out.size (.cells #[] 5))
  have HX11a := Lib.hid (HX11.out.alloc (.cells #[] 5)); have HY11a := Lib.hid (HY11.out.alloc (.cells #[] 5))
  have hz11 : (w11.alloc (.cells #[] 5)).heap.size = w11.heap.size + 1 := by simp
  go_wp2_with (at_builtin; refine wpList_append_rd rfl (.tmp 52) (.tmp 53) rfl w11.heap.size w11.heap.size 0 0 na ca w.heap.size [] a A rfl rfl HNIL.out (HRa.out.below HB11a.out) (HNa.out ()) HCa.out (by omega) (by rw [hz11]; omega) ?_)
  intro g3 cap3 w12 hown1 hgrow1 hat1
  try rw [hz11] at hat1
  have hg3 : w11.heap.size ≤ g3 := by rcases hat1 with rfl | rfl <;> omega
  have HO12 := Lib.hid hown1; have HB12 := Lib.hid (below_of_only HB11a.out hgrow1 HB11.out.size)
  have HX12 := Lib.hid (HX11a.out.grown hgrow1 (by intro e; injection e with e; omega)); have HY12 := Lib.hid (HY11a.out.grown hgrow1 (by intro e; injection e with e; omega))
  have hz12 : w11.heap.size + 1 ≤ w12.heap.size := by have := hgrow1.size; omega
  clear hown1 hgrow1 hat1 HNIL HB11a HX11a HY11a
  go_wp2_with (at_builtin; refine wpList_append_rd rfl (.tmp 54) (.tmp 55) rfl w11.heap.size g3 na cap3 nb cb w.heap.size a b A2 rfl rfl HO12.out (HRb.out.below HB12.out) (HNb.out ()) HCb.out (by omega) (by omega) ?_)
  intro g4 cap4 w13 hown2 hgrow2 hat2
  have hg4 : w11.heap.size ≤ g4 := by rcases hat2 with rfl | rfl <;> omega
  have HO13 := Lib.hid hown2; have HB13 := Lib.hid (below_of_only HB12.out hgrow2 (by have := HB11.out.size; omega))
  have HX13 := Lib.hid (HX12.out.grown hgrow2 (by intro e; injection e with e; omega)); have HY13 := Lib.hid (HY12.out.grown hgrow2 (by intro e; injection e with e; omega))
  have hz13 : w11.heap.size + 1 ≤ w13.heap.size := by have := hgrow2.size; omega
  clear hown2 hgrow2 hat2
  go_wp2_with (at_builtin; refine wpList_append_rd rfl (.tmp 56) (.tmp 57) rfl w11.heap.size g4 (na + nb) cap4 nc cc w.heap.size (a ++ b) c A3 rfl rfl HO13.out (HRc.out.below HB13.out) (HNc.out ()) HCc.out (by omega) (by omega) ?_)
  intro g5 cap5 w14 hown3 hgrow3 hat3
  try rw [List.append_assoc] at hown3
  have HO14 := Lib.hid hown3; have HB14 := Lib.hid (below_of_only HB13.out hgrow3 (by have := HB11.out.size; omega))
  have HX14 := Lib.hid (HX13.out.grown hgrow3 (by intro e; injection e with e; omega)); have HY14 := Lib.hid (HY13.out.grown hgrow3 (by intro e; injection e with e; omega))
  have hcp5 := own_cap hown3
  unfold maxLen at hcp5
  clear hown3 hgrow3 hat3
  have HRall := Lib.hid (rd_of_own HO14.out (gt_append_lt HRa.out.1 (gt_append_lt HRb.out.1 HRc.out.1)) (Nat.le_refl _))
  have HLall : Hid (Unit → (a ++ (b ++ c)).length = na + nb + nc) := Lib.hid fun _ => by simp [HNa.out (), HNb.out (), HNc.out ()]; omega
  go_wp2
  refine region_calm ?_
  refine wp_region_any (by kernel_rfl) ?_
  change wpAny _ _ _ _ _ _ _ (World.drew _)
  have HXd := Lib.hid HX14.out.drew; have HYd := Lib.hid HY14.out.drew; have HBd := Lib.hid HB14.out.drew
  have HRd := Lib.hid (show Rd w14.drew w14.drew.heap.size (some ⟨g5, 0, none⟩) (a ++ (b ++ c)) from HRall.out.keep fun _ _ => rfl)
  generalize w14.drew = wd at *
  refine wpAny_take (i := 0) (v := ?v0) rfl (by kernel_rfl) (by kernel_rfl) (by kernel_rfl) (fun _ _ _ h => h) (Or.inl ⟨by rfl, ?y0⟩) ?r0
  case y0 => (intro w; go_simp; try with_reducible rfl)
  simp only [List.getElem_toArray, List.getElem_cons_succ, List.getElem_cons_zero, Act.put, List.setIfInBounds_toArray, List.set_cons_zero, List.set_cons_succ]
  refine wpAny_take (i := 1) (v := ?v1) rfl (by kernel_rfl) (by kernel_rfl) (by kernel_rfl) (fun _ _ _ h => h) (Or.inl ⟨by rfl, ?y1⟩) ?r1
  case y1 => (intro w; go_simp; try with_reducible rfl)
  simp only [List.getElem_toArray, List.getElem_cons_succ, List.getElem_cons_zero, Act.put, List.setIfInBounds_toArray, List.set_cons_zero, List.set_cons_succ]
  refine wpAny_take (i := 2) (v := ?v2) rfl (by kernel_rfl) (by kernel_rfl) (by kernel_rfl) (fun _ _ _ h => h) (Or.inl ⟨by rfl, ?y2⟩) ?r2
  case y2 => (intro w; go_simp; try with_reducible rfl)
  simp only [List.getElem_toArray, List.getElem_cons_succ, List.getElem_cons_zero, Act.put, List.setIfInBounds_toArray, List.set_cons_zero, List.set_cons_succ]
  refine wpAny_take (i := 5) (v := ?v5) rfl (by kernel_rfl) (by kernel_rfl) (by kernel_rfl) (fun _ _ _ h => h) (Or.inl ⟨by rfl, ?y5⟩) ?r5
  case y5 => (intro w; go_simp; try with_reducible rfl)
  simp only [List.getElem_toArray, List.getElem_cons_succ, List.getElem_cons_zero, Act.put, List.setIfInBounds_toArray, List.set_cons_zero, List.set_cons_succ]
  refine wpAny_ready (rs := [3]) (by kernel_rfl) (by simp) ?_
  refine AllReady.cons rfl (fun K hK => ?_) AllReady.nil
  simp only [List.getElem_toArray, List.getElem_cons_succ, List.getElem_cons_zero]
  go_simp
  refine (hsum_any x s3 _ HXd.out HDx.out (HT.out.below HBd.out h2) (by omega)).mono ?_
  rintro e' wa ⟨h1, k1, rfl, hown, hB⟩
  have HOa := Lib.hid hown; have HXa := Lib.hid (HXd.out.below hB HXd.out.lt); have HYa := Lib.hid (HYd.out.below hB HYd.out.lt); have HBa := Lib.hid (HBd.out.trans (hB.mono HBd.out.size)); have HRa2 := Lib.hid ((HRd.out.below hB).more hB.size)
  have hsa := conv_own hown
  clear hown hB
  refine hK _ _ ?_
  clear hK K
  try simp only [List.getElem_toArray, List.getElem_cons_succ, List.getElem_cons_zero, Act.put, List.setIfInBounds_toArray, List.set_cons_zero, List.set_cons_succ]
  refine wpAny_of_held (S := fun w' => (convert 22 9 (.slice (some ⟨h1, 0, none⟩) 32 k1)).run Tryd.prog w' = .ok (.string (txt (sumOf s3))) w') _ _ _ _ ?_
  refine wpAnyH_take (i := 4) (v := ?v4) rfl (by kernel_rfl) (by kernel_rfl) (by kernel_rfl) (fun _ _ _ h => h) (Or.inl ⟨by rfl, ?y4⟩) hsa ?r4
  case y4 => (intro w hSw; (try dsimp only at hSw); go_simp; try with_reducible rfl)
  simp only [List.getElem_toArray, List.getElem_cons_succ, List.getElem_cons_zero, Act.put, List.setIfInBounds_toArray, List.set_cons_zero, List.set_cons_succ]
  refine wpAnyH_ready (rs := [6]) (by kernel_rfl) (by simp) ?_
  refine AllReadyH.cons rfl (fun K hK => ?_) AllReadyH.nil
  simp only [List.getElem_toArray, List.getElem_cons_succ, List.getElem_cons_zero]
  go_simp
  refine (hsum_any y s3 _ HYa.out HDx.out (HT.out.below HBa.out h2) (by omega)).mono ?_
  rintro e' wb ⟨h2', k2, rfl, hown, hB⟩
  have HOb := Lib.hid (own_below HOa.out hB (Nat.le_refl _)); have HXb := Lib.hid (HXa.out.below hB HXa.out.lt); have HBb := Lib.hid (HBa.out.trans (hB.mono HBa.out.size)); have HRb2 := Lib.hid ((HRa2.out.below hB).more hB.size)
  have hsb := conv_own HOb.out
  have hcb := conv_own hown
  clear hown hB
  refine hK.out _ _ hsb (fun _ => ?_)
  clear hK K
  try simp only [List.getElem_toArray, List.getElem_cons_succ, List.getElem_cons_zero, Act.put, List.setIfInBounds_toArray, List.set_cons_zero, List.set_cons_succ]
  refine wpAnyH_ready (rs := [7]) (by kernel_rfl) (by simp) ?_
  refine AllReadyH.cons rfl (fun K hK => ?_) AllReadyH.nil
  simp only [List.getElem_toArray, List.getElem_cons_succ, List.getElem_cons_zero]
  go_simp
  refine hK.out _ _ hsb (fun _ => ?_)
  clear hK K
  try simp only [List.getElem_toArray, List.getElem_cons_succ, List.getElem_cons_zero, Act.put, List.setIfInBounds_toArray, List.set_cons_zero, List.set_cons_succ]
  refine wpAnyH_take (i := 8) (v := ?v8) rfl (by kernel_rfl) (by kernel_rfl) (by kernel_rfl) (fun _ _ _ h => h) (Or.inl ⟨by rfl, ?y8⟩) hsb ?r8
  case y8 => (intro w hSw; (try dsimp only at hSw); go_simp; try with_reducible rfl)
  simp only [List.getElem_toArray, List.getElem_cons_succ, List.getElem_cons_zero, Act.put, List.setIfInBounds_toArray, List.set_cons_zero, List.set_cons_succ]
  refine wpAnyH_take (i := 9) (v := ?v9) rfl (by kernel_rfl) (by kernel_rfl) (by kernel_rfl) (fun _ _ _ h => h) (Or.inl ⟨by rfl, ?y9⟩) hsb ?r9
  case y9 => (intro w hSw; (try dsimp only at hSw); go_simp; try with_reducible rfl)
  simp only [List.getElem_toArray, List.getElem_cons_succ, List.getElem_cons_zero, Act.put, List.setIfInBounds_toArray, List.set_cons_zero, List.set_cons_succ]
  refine wpAnyH_take (i := 10) (v := ?v10) rfl (by kernel_rfl) (by kernel_rfl) (by kernel_rfl) (fun _ _ _ h => h) (Or.inl ⟨by rfl, ?y10⟩) hsb ?r10
  case y10 => (intro w hSw; (try dsimp only at hSw); go_simp; try with_reducible rfl)
  simp only [List.getElem_toArray, List.getElem_cons_succ, List.getElem_cons_zero, Act.put, List.setIfInBounds_toArray, List.set_cons_zero, List.set_cons_succ]
  refine wpAnyH_take (i := 11) (v := ?v11) rfl (by kernel_rfl) (by kernel_rfl) (by kernel_rfl) (fun _ _ _ h => h) (Or.inl ⟨by rfl, ?y11⟩) hsb ?r11
  case y11 => (intro w hSw; (try dsimp only at hSw); go_simp; try with_reducible rfl)
  simp only [List.getElem_toArray, List.getElem_cons_succ, List.getElem_cons_zero, Act.put, List.setIfInBounds_toArray, List.set_cons_zero, List.set_cons_succ]
  refine wpAnyH_take (i := 14) (v := ?v14) rfl (by kernel_rfl) (by kernel_rfl) (by kernel_rfl) (fun _ _ _ h => h) (Or.inl ⟨by rfl, ?y14⟩) hsb ?r14
  case y14 => (intro w hSw; (try dsimp only at hSw); go_simp; try with_reducible rfl)
  simp only [List.getElem_toArray, List.getElem_cons_succ, List.getElem_cons_zero, Act.put, List.setIfInBounds_toArray, List.set_cons_zero, List.set_cons_succ]
  refine wpAnyH_ready (rs := [12]) (by kernel_rfl) (by simp) ?_
  refine AllReadyH.cons rfl (fun K hK => ?_) AllReadyH.nil
  simp only [List.getElem_toArray, List.getElem_cons_succ, List.getElem_cons_zero]
  go_simp
  refine (hsum_any x s3 _ HXb.out HDx.out (HT.out.below HBb.out h2) (by omega)).mono ?_
  rintro e' wc ⟨h3', k3, rfl, hown, hB⟩
  have HOc := Lib.hid (own_below HOb.out hB (Nat.le_refl _)); have HBc := Lib.hid (HBb.out.trans (hB.mono HBb.out.size)); have HRc2 := Lib.hid ((HRb2.out.below hB).more hB.size)
  have HPc := Lib.hid hown
  have hsc := conv_own HOc.out
  have hsc2 := conv_own hown
  clear hown hB
  refine hK.out _ _ hsc (fun _ => ?_)
  clear hK K
  try simp only [List.getElem_toArray, List.getElem_cons_succ, List.getElem_cons_zero, Act.put, List.setIfInBounds_toArray, List.set_cons_zero, List.set_cons_succ]
  refine wpAnyH_more (S' := fun w' => (convert 22 9 (.slice (some ⟨h1, 0, none⟩) 32 k1)).run Tryd.prog w' = .ok (.string (txt (sumOf s3))) w' ∧ (convert 22 9 (.slice (some ⟨h3', 0, none⟩) 32 k3)).run Tryd.prog w' = .ok (.string (txt (sumOf s3))) w') (fun _ h => h.1) _ _ _ _ ?_
  refine wpAnyH_take (i := 13) (v := ?v13) rfl (by kernel_rfl) (by kernel_rfl) (by kernel_rfl) (fun _ _ _ h => h) (Or.inl ⟨by rfl, ?y13⟩) ⟨hsc, hsc2⟩ ?r13
  case y13 => (intro w hSw; have hSw2 := hSw.2; clear hSw; (try dsimp only at hSw2); go_simp; try with_reducible rfl)
  simp only [List.getElem_toArray, List.getElem_cons_succ, List.getElem_cons_zero, Act.put, List.setIfInBounds_toArray, List.set_cons_zero, List.set_cons_succ]
  refine wpAnyH_ready (rs := [15]) (by kernel_rfl) (by simp) ?_
  refine AllReadyH.cons rfl (fun K hK => ?_) AllReadyH.nil
  simp only [List.getElem_toArray, List.getElem_cons_succ, List.getElem_cons_zero]
  go_simp
  refine (sum_any (some ⟨g5, 0, none⟩) (a ++ (b ++ c)) (na + nb + nc) cap5 _ (HT.out.below HBc.out h2) HRc2.out (HLall.out ()) (by omega) (by omega) (by omega)).mono ?_
  rintro e' we ⟨h4', k4, rfl, hown, hB⟩
  rw [HSUM.out ()] at hown
  have HOe := Lib.hid (own_below HOc.out hB (Nat.le_refl _)); have HPe := Lib.hid (own_below HPc.out hB (Nat.le_refl _)); have HBe := Lib.hid (HBc.out.trans (hB.mono HBc.out.size))
  have hse := And.intro (conv_own HOe.out) (conv_own HPe.out)
  have hce := conv_own hown
  clear hown hB
  refine hK.out _ _ hse (fun _ => ?_)
  clear hK K
  try simp only [List.getElem_toArray, List.getElem_cons_succ, List.getElem_cons_zero, Act.put, List.setIfInBounds_toArray, List.set_cons_zero, List.set_cons_succ]
  refine wpAnyH_ready (rs := [16]) (by kernel_rfl) (by simp) ?_
  refine AllReadyH.cons rfl (fun K hK => ?_) AllReadyH.nil
  simp only [List.getElem_toArray, List.getElem_cons_succ, List.getElem_cons_zero]
  go_simp
  refine hK.out _ _ hse (fun _ => ?_)
  clear hK K
  try simp only [List.getElem_toArray, List.getElem_cons_succ, List.getElem_cons_zero, Act.put, List.setIfInBounds_toArray, List.set_cons_zero, List.set_cons_succ]
  refine wpAnyH_take (i := 17) (v := ?v17) rfl (by kernel_rfl) (by kernel_rfl) (by kernel_rfl) (fun _ _ _ h => h) (Or.inl ⟨by rfl, ?y17⟩) hse ?r17
  case y17 => (intro w hSw; clear hSw; go_simp; try with_reducible rfl)
  simp only [List.getElem_toArray, List.getElem_cons_succ, List.getElem_cons_zero, Act.put, List.setIfInBounds_toArray, List.set_cons_zero, List.set_cons_succ]
  refine wpAnyH_take (i := 18) (v := ?v18) rfl (by kernel_rfl) (by kernel_rfl) (by kernel_rfl) (fun _ _ _ h => h) (Or.inl ⟨by rfl, ?y18⟩) hse ?r18
  case y18 => (intro w hSw; clear hSw; go_simp; try with_reducible rfl)
  simp only [List.getElem_toArray, List.getElem_cons_succ, List.getElem_cons_zero, Act.put, List.setIfInBounds_toArray, List.set_cons_zero, List.set_cons_succ]
  refine wpAnyH_take (i := 19) (v := ?v19) rfl (by kernel_rfl) (by kernel_rfl) (by kernel_rfl) (fun _ _ _ h => h) (Or.inl ⟨by rfl, ?y19⟩) hse ?r19
  case y19 => (intro w hSw; clear hSw; go_simp; try with_reducible rfl)
  simp only [List.getElem_toArray, List.getElem_cons_succ, List.getElem_cons_zero, Act.put, List.setIfInBounds_toArray, List.set_cons_zero, List.set_cons_succ]
  refine wpAnyH_done (by kernel_rfl) ?_ _
  change Exit.then _ _ Exit.normal _ _
  go_wp2
  go_ret
  exact ⟨rfl, HBe.out⟩

set_option maxHeartbeats 1000000 in
theorem parts_great (A A2 A3 : Option Addr) (na nb nc ca cb cc : Nat) (w : World) (hT : Tables w) (h : 20000 < na ∨ 20000 < nb ∨ 20000 < nc) :
    Calls Tryd.prog 5 #[.slice A na ca, .slice A2 nb cb, .slice A3 nc cc] w fun e w' => e = .returned (.bool true) ∧ Below w.heap.size w w' := by
  have HT := Lib.hid hT; clear hT
  have H := Lib.hid h; clear h
  go_enter Tryd.func5, Tryd.ntmps5
  go_wp2_with fail
  refine (head_any _ HT.out).mono ?_
  rintro e' w1 ⟨rfl, hB1⟩
  have HB1 := Lib.hid hB1; clear hB1
  by_cases ha : 20000 < na
  · go_wp2_with fail
    refine (great_yes _ _ _ _ ha).mono ?_
    rintro e' w2 ⟨rfl, rfl⟩
    go_wp2
    go_ret
    exact ⟨rfl, HB1.out⟩
  · have ha' : na ≤ 20000 := by omega
    go_wp2_with fail
    refine (great_no _ _ _ _ ha').mono ?_
    rintro e' w2 ⟨rfl, rfl⟩
    by_cases hb : 20000 < nb
    · go_wp2_with fail
      refine (great_yes _ _ _ _ hb).mono ?_
      rintro e' w2 ⟨rfl, rfl⟩
      go_wp2
      go_ret
      exact ⟨rfl, HB1.out⟩
    · have hb' : nb ≤ 20000 := by omega
      have hc : 20000 < nc := by have := H.out; omega
      go_wp2_with fail
      refine (great_no _ _ _ _ hb').mono ?_
      rintro e' w2 ⟨rfl, rfl⟩
      go_wp2_with fail
      refine (great_yes _ _ _ _ hc).mono ?_
      rintro e' w2 ⟨rfl, rfl⟩
      go_wp2
      go_ret
      exact ⟨rfl, HB1.out⟩

theorem sha2Parts_walk (a0 : Option Addr) (len0 cap0 : Nat) (z0 : List Int) (a1 : Option Addr) (len1 cap1 : Nat) (z1 : List Int) (a2 : Option Addr) (len2 cap2 : Nat) (z2 : List Int) (w : World) (hT : Tables w) (w0 : IsRow .u8 w a0 len0 cap0 z0) (w1 : IsRow .u8 w a1 len1 cap1 z1) (w2 : IsRow .u8 w a2 len2 cap2 z2) :
    Calls Tryd.prog 5 #[.slice a0 len0 cap0, .slice a1 len1 cap1, .slice a2 len2 cap2] w fun e w' => e = .returned (.bool true) ∧ Below w.heap.size w w' := by
  obtain ⟨r0, n0, m0, c0, x0⟩ := rd_of_row w0
  obtain ⟨r1, n1, m1, c1, x1⟩ := rd_of_row w1
  obtain ⟨r2, n2, m2, c2, x2⟩ := rd_of_row w2
  by_cases h : 20000 < len0 ∨ 20000 < len1 ∨ 20000 < len2
  · exact parts_great a0 a1 a2 len0 len1 len2 cap0 cap1 cap2 w hT h
  · exact parts_walk a0 a1 a2 _ _ _ len0 len1 len2 cap0 cap1 cap2 w hT r0 r1 r2 n0 n1 n2 x0 x1 x2 m0 m1 m2 c0 c1 c2 (by omega) (by omega) (by omega)

end Go.Proofs.YtcgdpjdbfhdkkaaDoor.Sha
