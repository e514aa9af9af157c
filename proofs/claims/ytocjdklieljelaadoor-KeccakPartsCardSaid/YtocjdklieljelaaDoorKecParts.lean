/- Walks: KeccakParts. -/
import Derived.Test.YtocjdklieljelaaDoorKecAppend
import Derived.Test.YtocjdklieljelaaDoorKecRow
import Derived.IntWalk
import Derived.Deep.RegionHeld3
namespace Go.Proofs.YtocjdklieljelaaDoor.Kec
open Go.RowKit
attribute [local go_sem ↓] Go.wp_at_zero Go.wp_at_succ

theorem rd_of_rowIs {w : World} {h n B : Nat} {bs : List Nat} (hrow : w.rowIs h 5 n (byteRow bs)) (hn : bs.length = n) (hx : ∀ j, gt bs j < 256) (hB : w.heap.size ≤ B) : Rd w B (some ⟨h, 0, none⟩) bs := by
  have hlt := hrow.lt
  refine ⟨hx, fun _ => ⟨_, rfl, by show h < B; omega, fun j hj => ?_⟩⟩
  have ha : (⟨h, 0, none⟩ : Addr).add j = ⟨h, j, none⟩ := by unfold Addr.add; split <;> simp_all
  rw [ha, hrow.cell (by omega)]; rfl
theorem parts_eq (a b c : List Nat) (n m : Nat) :
    (outs 136 (turned 136 31 (takeAll 136 (takeAll 136 (takeAll 136 start a) b) c)) n ++ outs 136 (after 136 (turned 136 31 (takeAll 136 (takeAll 136 (takeAll 136 start a) b) c)) n) m) ++ outs 136 (after 136 (after 136 (turned 136 31 (takeAll 136 (takeAll 136 (takeAll 136 start a) b) c)) n) m) 3
      = sponge 136 31 (a ++ (b ++ c)) (n + m + 3) := by
  rw [outs_add, after_add, outs_add]
  unfold sponge
  rw [takeAll_append, takeAll_append]

set_option maxHeartbeats 4000000 in
set_option maxRecDepth 100000 in
theorem parts_walk (A A2 A3 : Option Addr) (a b c : List Nat) (na nb nc ca cb cc n m : Nat) (w : World) (hT : Tables w) (hRa : Rd w w.heap.size A a) (hRb : Rd w w.heap.size A2 b) (hRc : Rd w w.heap.size A3 c) (hna : a.length = na) (hnb : b.length = nb) (hnc : c.length = nc)
    (hca : A = none → ca = 0) (hcb : A2 = none → cb = 0) (hcc : A3 = none → cc = 0) (hma : na ≤ 5000) (hmb : nb ≤ 5000) (hmc : nc ≤ 5000) (h1 : n < 256) (h2 : m < 256) :
    Calls Tryd.prog 5 #[.slice A na ca, .slice A2 nb cb, .slice A3 nc cc, .int .u8 n, .int .u8 m] w fun e w' => e = .returned (.bool true) ∧ Below w.heap.size w w' := by
  have h3 := hT.lt
  have HT := Lib.hid hT; have HRa := Lib.hid hRa; have HRb := Lib.hid hRb; have HRc := Lib.hid hRc; have HNa := Lib.hid hna; have HNb := Lib.hid hnb; have HNc := Lib.hid hnc
  have HCa := Lib.hid hca; have HCb := Lib.hid hcb; have HCc := Lib.hid hcc; clear hT hRa hRb hRc hna hnb hnc hca hcb hcc
  go_enter Tryd.func5, Tryd.ntmps5
  go_wp2_with fail
  refine (head_any _ HT.out).mono ?_
  rintro e' w1 ⟨rfl, hB1⟩
  have HB1 := Lib.hid hB1; clear hB1
  go_wp2_with fail
  refine (great_no _ _ _ _ hma).mono ?_
  rintro e' w2 ⟨rfl, rfl⟩
  go_wp2_with fail
  refine (great_no _ _ _ _ hmb).mono ?_
  rintro e' w2 ⟨rfl, rfl⟩
  go_wp2_with fail
  refine (great_no _ _ _ _ hmc).mono ?_
  rintro e' w2 ⟨rfl, rfl⟩
  go_wp2_with fail
  refine (new_any 136 31 _ (by omega) (by omega) (by omega)).mono ?_
  rintro e' w3 ⟨rfl, hS, hB2, hz⟩
  have HS3 := Lib.hid hS; have HB3 := Lib.hid (HB1.out.trans (hB2.mono HB1.out.size)); clear hS hB2 hz
  have hw1 := HB1.out.size
  generalize w1.heap.size = g at *
  have HT3 := Lib.hid (HT.out.below HB3.out h3)
  have HD0 := Lib.hid (good_start (r := 136) (by omega))
  go_wp2_with fail
  refine (write_any g 136 31 w.heap.size start A a na ca _ HS3.out HD0.out (by omega) HT3.out (by omega) (HRa.out.below HB3.out) hw1 HNa.out (by omega)).mono ?_
  rintro e' w4 ⟨rfl, hS4, hG4⟩
  have HS4 := Lib.hid hS4; have HG4 := Lib.hid (below_of_only HB3.out hG4 hw1); clear hS4 hG4
  have HT4 := Lib.hid (HT.out.below HG4.out h3)
  have HD4 := Lib.hid (good_takeAll (r := 136) (by omega) a HD0.out)
  go_wp2_with fail
  refine (write_any g 136 31 w.heap.size (takeAll 136 start a) A2 b nb cb _ HS4.out HD4.out (by omega) HT4.out (by omega) (HRb.out.below HG4.out) hw1 HNb.out (by omega)).mono ?_
  rintro e' w5 ⟨rfl, hS5, hG5⟩
  have HS5 := Lib.hid hS5; have HG5 := Lib.hid (below_of_only HG4.out hG5 hw1); clear hS5 hG5
  have HT5 := Lib.hid (HT.out.below HG5.out h3)
  have HD5 := Lib.hid (good_takeAll (r := 136) (by omega) b HD4.out)
  go_wp2_with fail
  refine (write_any g 136 31 w.heap.size (takeAll 136 (takeAll 136 start a) b) A3 c nc cc _ HS5.out HD5.out (by omega) HT5.out (by omega) (HRc.out.below HG5.out) hw1 HNc.out (by omega)).mono ?_
  rintro e' w6 ⟨rfl, hS6, hG6⟩
  have HS6 := Lib.hid hS6; have HG6 := Lib.hid (below_of_only HG5.out hG6 hw1); clear hS6 hG6
  have HT6 := Lib.hid (HT.out.below HG6.out h3)
  have HD6 := Lib.hid (good_takeAll (r := 136) (by omega) c HD5.out)
  have HPQ := Lib.hid (parts_eq a b c n m)
  generalize takeAll 136 (takeAll 136 (takeAll 136 start a) b) c = s6 at *
  have hg6 : g < w6.heap.size := HS6.out.2.lt
  go_wp2_with fail
  refine (read_turns g 136 31 s6 n _ HS6.out HD6.out (by omega) (by omega) (by omega) HT6.out (by omega) (by omega)).mono ?_
  rintro e' w7 ⟨hx, rfl, hhx, hrowx, hS7, hG7⟩
  have HS7 := Lib.hid hS7; have HG7 := Lib.hid (below_of_only HG6.out hG7 hw1); have HX := Lib.hid hrowx; clear hS7 hG7 hrowx
  have HT7 := Lib.hid (HT.out.below HG7.out h3)
  have HD7 := Lib.hid (good_after (good_turned (r := 136) 31 HD6.out (by omega) (by omega)) n)
  have hlx := outs_len 136 (turned 136 31 s6) n
  generalize turned 136 31 s6 = t at *
  have hxg : hx ≠ g := by omega
  go_wp2_with fail
  refine (read_gives g 136 31 (after 136 t n) m _ HS7.out HD7.out (by omega) HT7.out (by omega) (by omega)).mono ?_
  rintro e' w8 ⟨hy, rfl, hhy, hrowy, hS8, hG8⟩
  have HX8 := Lib.hid (HX.out.of_block (hG8.block hx HX.out.lt (by intro e; injection e with e; exact hxg e)))
  have HS8 := Lib.hid hS8; have HG8 := Lib.hid (below_of_only HG7.out hG8 hw1); have HY := Lib.hid hrowy; clear hS8 hG8 hrowy
  have HT8 := Lib.hid (HT.out.below HG8.out h3)
  have HD8 := Lib.hid (good_after HD7.out m)
  have hly := outs_len 136 (after 136 t n) m
  have hlz := outs_len 136 (after 136 (after 136 t n) m) 3
  have HYB := Lib.hid (gt_lt_of_mem (outs_lt 136 (after 136 t n) m))
  have HZB := Lib.hid (gt_lt_of_mem (outs_lt 136 (after 136 (after 136 t n) m) 3))
  generalize outs 136 t n = xs at *
  generalize outs 136 (after 136 t n) m = ys at *
  have hxw : w.heap.size ≤ hx := by have := HG6.out.size; omega
  have HLX := Lib.hid hlx; have HLY := Lib.hid hly; have HLZ := Lib.hid hlz; clear hlx hly hlz
  have HOX := Lib.hid (own_of_row (base := w.heap.size) HX8.out HLX.out (by unfold maxLen; omega) hxw)
  have HRY := Lib.hid (rd_of_rowIs HY.out HLY.out HYB.out (Nat.le_refl _))
  have hg8 : g < w8.heap.size := HS8.out.2.lt
  go_wp2_with (at_builtin; refine wpList_append_rd rfl (.tmp 44) (.tmp 48) rfl w.heap.size hx n n m m w8.heap.size xs ys (some ⟨hy, 0, none⟩) rfl rfl HOX.out HRY.out HLY.out (fun h => by cases h) (by omega) HG8.out.size ?_)
  intro gx capx w9 hownx hgrow hat
  have HOX9 := Lib.hid hownx; have HG9 := Lib.hid (below_of_only HG8.out hgrow hxw)
  have HS9 := Lib.hid (show Sp w9 g 136 31 true (after 136 (after 136 t n) m) from HS8.out.grown hgrow (by intro e; injection e with e; exact hxg e.symm))
  have hgx : gx ≠ g := by rcases hat with rfl | rfl <;> omega
  clear hownx hgrow hat
  have HT9 := Lib.hid (HT.out.below HG9.out h3)
  have hg9 : g < w9.heap.size := HS9.out.2.lt
  go_wp2_with fail
  refine (write_gives g 136 31 _ _ _ HS9.out).mono ?_
  rintro e' w10 ⟨rfl, rfl⟩
  go_wp2_with fail
  refine (read_gives g 136 31 _ 3 _ HS9.out HD8.out (by omega) HT9.out (by omega) (by omega)).mono ?_
  rintro e' w10 ⟨hq, rfl, hhq, hrowq, _, hG10⟩
  have HOX10 := Lib.hid (HOX9.out.kept hG10 (.inr (by intro e; injection e with e; exact hgx e)))
  have HG10 := Lib.hid (below_of_only HG9.out hG10 hw1); have HQ := Lib.hid hrowq; clear hG10 hrowq
  generalize outs 136 (after 136 (after 136 t n) m) 3 = zs at *
  have hgx10 : gx < w10.heap.size := (HOX10.out.lt gx rfl).2
  have HNIL : Hid ((w10.alloc (.cells #[] 5)).ownsRow w.heap.size 5 1 (.slice (some ⟨w10.heap.size, 0, none⟩) 0 0) 0 (bcells [])) := Lib.hid (World.ownsRow_made w10 #[] 0 HG10.out.size (by unfold maxLen; omega) rfl)
  go_wp2_with (at_builtin; refine wpList_append_rd rfl (.tmp 55) (.tmp 56) rfl w.heap.size w10.heap.size 0 0 na ca w.heap.size [] a A rfl rfl HNIL.out (HRa.out.below (HG10.out.alloc HG10.out.size _)) HNa.out HCa.out (by omega) (HG10.out.alloc HG10.out.size _).size ?_)
  intro g1 cap1 w11 hown1 hgrow1 hat1
  have HO11 := Lib.hid hown1; have HG11 := Lib.hid (below_of_only (HG10.out.alloc HG10.out.size _) hgrow1 HG10.out.size)
  have HOX11 := Lib.hid ((HOX10.out.alloc _).kept hgrow1 (.inr (by intro e; have e' : gx = w10.heap.size := Option.some.inj e; omega)))
  have HQ11 := Lib.hid ((HQ.out.alloc (.cells #[] 5)).of_block (hgrow1.block hq (by have := HQ.out.lt; simp; omega) (by have := HQ.out.lt; intro e; injection e with e; omega)))
  have hg1 : w10.heap.size ≤ g1 := by rcases hat1 with rfl | rfl <;> simp
  clear hown1 hgrow1 hat1
  go_wp2_with (at_builtin; refine wpList_append_rd rfl (.tmp 57) (.tmp 58) rfl w.heap.size g1 na cap1 nb cb w.heap.size a b A2 rfl rfl HO11.out (HRb.out.below HG11.out) HNb.out HCb.out (by omega) HG11.out.size ?_)
  intro g2 cap2 w12 hown2 hgrow2 hat2
  have hw11 : w10.heap.size ≤ w11.heap.size := by have := (HO11.out.lt g1 rfl).2; omega
  have hgx11 : gx < w11.heap.size := (HOX11.out.lt gx rfl).2
  have HO12 := Lib.hid hown2; have HG12 := Lib.hid (below_of_only HG11.out hgrow2 (by have := HG10.out.size; omega))
  have HOX12 := Lib.hid (HOX11.out.kept hgrow2 (.inr (by intro e; have e' : gx = g1 := Option.some.inj e; omega)))
  have HQ12 := Lib.hid (HQ11.out.of_block (hgrow2.block hq HQ11.out.lt (by have := HQ.out.lt; intro e; injection e with e; omega)))
  have hg2 : w10.heap.size ≤ g2 := by rcases hat2 with rfl | rfl <;> omega
  clear hown2 hgrow2 hat2
  go_wp2_with (at_builtin; refine wpList_append_rd rfl (.tmp 59) (.tmp 60) rfl w.heap.size g2 (na + nb) cap2 nc cc w.heap.size (a ++ b) c A3 rfl rfl HO12.out (HRc.out.below HG12.out) HNc.out HCc.out (by omega) HG12.out.size ?_)
  intro g3 cap3 w13 hown3 hgrow3 hat3
  have HO13 := Lib.hid hown3; have HG13 := Lib.hid (below_of_only HG12.out hgrow3 (by have := HG10.out.size; omega))
  have HOX13 := Lib.hid (HOX12.out.kept hgrow3 (.inr (by intro e; have e' : gx = g2 := Option.some.inj e; omega)))
  have HQ13 := Lib.hid (HQ12.out.of_block (hgrow3.block hq HQ12.out.lt (by have := HQ.out.lt; intro e; injection e with e; omega)))
  clear hown3 hgrow3 hat3
  have HRall := Lib.hid (rd_of_own HO13.out (gt_append_lt HRa.out.1 (gt_append_lt HRb.out.1 HRc.out.1)) (Nat.le_refl _))
  go_wp2_with fail
  refine (shake256_int (some ⟨g3, 0, none⟩) (a ++ (b ++ c)) (na + nb + nc) cap3 _ (n + m + 3) _ (HT.out.below HG13.out h3) HRall.out (by simp [HNa.out, HNb.out, HNc.out]; omega) (by omega) (by omega) (by omega)).mono ?_
  rintro e' w14 ⟨hz, rfl, hhz, hrowz, hB14⟩
  have HOX14 := Lib.hid (HOX13.out.kept (only_of_below hB14 none) (.inr (by simp [Value.ownBlock])))
  have HQ14 := Lib.hid (HQ13.out.of_block (hB14.block hq HQ13.out.lt))
  have HZ14 := Lib.hid hrowz; have HG14 := Lib.hid (HG13.out.trans (hB14.mono HG13.out.size))
  have hgx13 : gx < w13.heap.size := (HOX13.out.lt gx rfl).2
  clear hrowz hB14
  have HRQ := Lib.hid (rd_of_rowIs HQ14.out HLZ.out HZB.out (Nat.le_refl _))
  go_wp2
  have S0 : ∀ w', w14.grownBy w' (some gx) → (convert 22 9 (.slice (some ⟨hz, 0, none⟩) (n + m + 3) (n + m + 3))).run Tryd.prog w' = .ok (.string (txt (sponge 136 31 (a ++ (b ++ c)) (n + m + 3)))) w' :=
    fun w' hG => conv_all (c := n + m + 3) (HZ14.out.of_block (hG.block hz HZ14.out.lt (by intro e; injection e with e; omega))) (sponge_len _ _ _ _)
  have HS0 := Lib.hid S0; clear S0
  have hS := HS0.out w14.drew (only_drew (World.grownBy.refl _ _))
  have h33 : n + m + 3 ≤ 1000000 := by omega
  have HRQD := Lib.hid (show Rd w14.drew w14.heap.size (some ⟨hq, 0, none⟩) zs from HRQ.out.keep fun _ _ => rfl)
  refine region_calm ?_
  refine wp_region_any (by kernel_rfl) ?_
  change wpAny _ _ _ _ _ _ _ (World.drew _)
  refine wpAny_of_held (S := fun w' => (convert 22 9 (.slice (some ⟨hz, 0, none⟩) (n + m + 3) (n + m + 3))).run Tryd.prog w' = .ok (.string (txt (sponge 136 31 (a ++ (b ++ c)) (n + m + 3)))) w') _ _ _ _ ?_
  refine wpAnyH_take (i := 0) (v := ?v0) rfl (by kernel_rfl) (by kernel_rfl) (by kernel_rfl) (fun _ _ _ h => h) (Or.inl ⟨by rfl, ?y0⟩) hS ?r0
  case y0 => (intro w hSw; (try dsimp only at hSw); go_simp; try with_reducible rfl)
  simp only [List.getElem_toArray, List.getElem_cons_succ, List.getElem_cons_zero, Act.put, List.setIfInBounds_toArray, List.set_cons_zero, List.set_cons_succ]
  refine wpAnyH_take (i := 1) (v := ?v1) rfl (by kernel_rfl) (by kernel_rfl) (by kernel_rfl) (fun _ _ _ h => h) (Or.inl ⟨by rfl, ?y1⟩) hS ?r1
  case y1 => (intro w hSw; (try dsimp only at hSw); go_simp; try with_reducible rfl)
  simp only [List.getElem_toArray, List.getElem_cons_succ, List.getElem_cons_zero, Act.put, List.setIfInBounds_toArray, List.set_cons_zero, List.set_cons_succ]
  refine wpAnyH_take (i := 2) (v := ?v2) rfl (by kernel_rfl) (by kernel_rfl) (by kernel_rfl) (fun _ _ _ h => h) (Or.inl ⟨by rfl, ?y2⟩) hS ?r2
  case y2 => (intro w hSw; (try dsimp only at hSw); go_simp; try with_reducible rfl)
  simp only [List.getElem_toArray, List.getElem_cons_succ, List.getElem_cons_zero, Act.put, List.setIfInBounds_toArray, List.set_cons_zero, List.set_cons_succ]
  refine wpAnyH_take (i := 3) (v := ?v3) rfl (by kernel_rfl) (by kernel_rfl) (by kernel_rfl) (fun _ _ _ h => h) (Or.inl ⟨by rfl, ?y3⟩) hS ?r3
  case y3 => (intro w hSw; (try dsimp only at hSw); go_simp; try with_reducible rfl)
  simp only [List.getElem_toArray, List.getElem_cons_succ, List.getElem_cons_zero, Act.put, List.setIfInBounds_toArray, List.set_cons_zero, List.set_cons_succ]
  refine wpAnyH_take (i := 6) (v := ?v6) rfl (by kernel_rfl) (by kernel_rfl) (by kernel_rfl) (fun _ _ _ h => h) (Or.inl ⟨by rfl, ?y6⟩) hS ?r6
  case y6 => (intro w hSw; (try dsimp only at hSw); go_simp; try with_reducible rfl)
  simp only [List.getElem_toArray, List.getElem_cons_succ, List.getElem_cons_zero, Act.put, List.setIfInBounds_toArray, List.set_cons_zero, List.set_cons_succ]
  refine wpAnyH_take (i := 7) (v := ?v7) rfl (by kernel_rfl) (by kernel_rfl) (by kernel_rfl) (fun _ _ _ h => h) (Or.inl ⟨by rfl, ?y7⟩) hS ?r7
  case y7 => (intro w hSw; (try dsimp only at hSw); go_simp; try with_reducible rfl)
  simp only [List.getElem_toArray, List.getElem_cons_succ, List.getElem_cons_zero, Act.put, List.setIfInBounds_toArray, List.set_cons_zero, List.set_cons_succ]
  refine wpAnyH_ready (rs := [4]) (by kernel_rfl) (by simp) ?_
  refine AllReadyH.cons rfl (fun K hK => ?_) AllReadyH.nil
  simp only [List.getElem_toArray, List.getElem_cons_succ, List.getElem_cons_zero]
  refine step_append_rd ?hw (.tmp 72) (.tmp 73) ?ho w.heap.size gx (n + m) capx 3 3 w14.heap.size (xs ++ ys) zs (some ⟨hq, 0, none⟩) ?hs ?hx2 HOX14.out.drew HRQD.out HLZ.out ?hcn h33 HG14.out.size ?hk
  case hw => rfl
  case ho => rfl
  case hs => rfl
  case hx2 => rfl
  case hcn => exact fun h => by cases h
  intro gq cap wq hown hgrow hat
  rw [HPQ.out] at hown
  have hcv := conv_own hown
  have hS2 := HS0.out wq (only_then (only_drew (World.grownBy.refl w14 (some gx))) hgrow (.inl rfl))
  have HGQ := Lib.hid (below_of_only HG14.out (only_then (only_drew (World.grownBy.refl w14 (some gx))) hgrow (.inl rfl)) (HOX14.out.lt gx rfl).1)
  clear hown hgrow hat
  refine hK.out _ _ hS2 (fun _ => ?_)
  clear hK K
  try simp only [List.getElem_toArray, List.getElem_cons_succ, List.getElem_cons_zero, Act.put, List.setIfInBounds_toArray, List.set_cons_zero, List.set_cons_succ]
  refine wpAnyH_ready (rs := [5]) (by kernel_rfl) (by simp) ?_
  refine AllReadyH.cons rfl (fun K hK => ?_) AllReadyH.nil
  simp only [List.getElem_toArray, List.getElem_cons_succ, List.getElem_cons_zero]
  go_simp
  refine hK.out _ _ hS2 (fun _ => ?_)
  clear hK K
  try simp only [List.getElem_toArray, List.getElem_cons_succ, List.getElem_cons_zero, Act.put, List.setIfInBounds_toArray, List.set_cons_zero, List.set_cons_succ]
  refine wpAnyH_take (i := 8) (v := ?v8) rfl (by kernel_rfl) (by kernel_rfl) (by kernel_rfl) (fun _ _ _ h => h) (Or.inl ⟨by rfl, ?y8⟩) hS2 ?r8
  case y8 => (intro w hSw; (try dsimp only at hSw); go_simp; try with_reducible rfl)
  simp only [List.getElem_toArray, List.getElem_cons_succ, List.getElem_cons_zero, Act.put, List.setIfInBounds_toArray, List.set_cons_zero, List.set_cons_succ]
  refine wpAnyH_take (i := 9) (v := ?v9) rfl (by kernel_rfl) (by kernel_rfl) (by kernel_rfl) (fun _ _ _ h => h) (Or.inl ⟨by rfl, ?y9⟩) hS2 ?r9
  case y9 => (intro w hSw; (try dsimp only at hSw); go_simp; try with_reducible rfl)
  simp only [List.getElem_toArray, List.getElem_cons_succ, List.getElem_cons_zero, Act.put, List.setIfInBounds_toArray, List.set_cons_zero, List.set_cons_succ]
  refine wpAnyH_take (i := 10) (v := ?v10) rfl (by kernel_rfl) (by kernel_rfl) (by kernel_rfl) (fun _ _ _ h => h) (Or.inl ⟨by rfl, ?y10⟩) hS2 ?r10
  case y10 => (intro w hSw; (try dsimp only at hSw); go_simp; try with_reducible rfl)
  simp only [List.getElem_toArray, List.getElem_cons_succ, List.getElem_cons_zero, Act.put, List.setIfInBounds_toArray, List.set_cons_zero, List.set_cons_succ]
  refine wpAnyH_done (by kernel_rfl) ?_ _
  change Exit.then _ _ Exit.normal _ _
  go_wp2
  go_ret
  exact ⟨rfl, HGQ.out⟩

set_option maxHeartbeats 1000000 in
theorem parts_great (A A2 A3 : Option Addr) (na nb nc ca cb cc : Nat) (n m : Int) (w : World) (hT : Tables w) (h : 5000 < na ∨ 5000 < nb ∨ 5000 < nc) :
    Calls Tryd.prog 5 #[.slice A na ca, .slice A2 nb cb, .slice A3 nc cc, .int .u8 n, .int .u8 m] w fun e w' => e = .returned (.bool true) ∧ Below w.heap.size w w' := by
  have HT := Lib.hid hT; clear hT
  have H := Lib.hid h; clear h
  go_enter Tryd.func5, Tryd.ntmps5
  go_wp2_with fail
  refine (head_any _ HT.out).mono ?_
  rintro e' w1 ⟨rfl, hB1⟩
  have HB1 := Lib.hid hB1; clear hB1
  by_cases ha : 5000 < na
  · go_wp2_with fail
    refine (great_yes _ _ _ _ ha).mono ?_
    rintro e' w2 ⟨rfl, rfl⟩
    go_wp2
    go_ret
    exact ⟨rfl, HB1.out⟩
  · have ha' : na ≤ 5000 := by omega
    go_wp2_with fail
    refine (great_no _ _ _ _ ha').mono ?_
    rintro e' w2 ⟨rfl, rfl⟩
    by_cases hb : 5000 < nb
    · go_wp2_with fail
      refine (great_yes _ _ _ _ hb).mono ?_
      rintro e' w2 ⟨rfl, rfl⟩
      go_wp2
      go_ret
      exact ⟨rfl, HB1.out⟩
    · have hb' : nb ≤ 5000 := by omega
      have hc : 5000 < nc := by have := H.out; omega
      go_wp2_with fail
      refine (great_no _ _ _ _ hb').mono ?_
      rintro e' w2 ⟨rfl, rfl⟩
      go_wp2_with fail
      refine (great_yes _ _ _ _ hc).mono ?_
      rintro e' w2 ⟨rfl, rfl⟩
      go_wp2
      go_ret
      exact ⟨rfl, HB1.out⟩

theorem cap_of_row {k : IntKind} {w : World} {a : Option Addr} {len cap : Nat} {zs : List Int} (h : IsRow k w a len cap zs) : a = none → cap = 0 := by
  rcases h with ⟨_, _, h, _⟩ | ⟨x, rfl, _⟩
  · exact fun _ => h
  · exact fun h => by cases h
theorem keccakParts_walk (a0 : Option Addr) (len0 cap0 : Nat) (z0 : List Int) (a1 : Option Addr) (len1 cap1 : Nat) (z1 : List Int) (a2 : Option Addr) (len2 cap2 : Nat) (z2 : List Int) (a3 : Int) (a4 : Int) (w : World) (hT : Tables w) (w0 : IsRow .u8 w a0 len0 cap0 z0) (w1 : IsRow .u8 w a1 len1 cap1 z1) (w2 : IsRow .u8 w a2 len2 cap2 z2) (w3 : (Lit.int .u8 a3).wf = true) (w4 : (Lit.int .u8 a4).wf = true) :
    Calls Tryd.prog 5 #[.slice a0 len0 cap0, .slice a1 len1 cap1, .slice a2 len2 cap2, .int .u8 a3, .int .u8 a4] w fun e w' => e = .returned (.bool true) ∧ Below w.heap.size w w' := by
  obtain ⟨k, rfl, hk⟩ := byte_of_wf w3
  obtain ⟨j, rfl, hj⟩ := byte_of_wf w4
  obtain ⟨r0, n0, m0⟩ := rd_of_row w0
  obtain ⟨r1, n1, m1⟩ := rd_of_row w1
  obtain ⟨r2, n2, m2⟩ := rd_of_row w2
  by_cases h : 5000 < len0 ∨ 5000 < len1 ∨ 5000 < len2
  · exact parts_great a0 a1 a2 len0 len1 len2 cap0 cap1 cap2 k j w hT h
  · exact parts_walk a0 a1 a2 _ _ _ len0 len1 len2 cap0 cap1 cap2 k j w hT r0 r1 r2 n0 n1 n2 (cap_of_row w0) (cap_of_row w1) (cap_of_row w2) (by omega) (by omega) (by omega) hk hj

end Go.Proofs.YtocjdklieljelaaDoor.Kec
