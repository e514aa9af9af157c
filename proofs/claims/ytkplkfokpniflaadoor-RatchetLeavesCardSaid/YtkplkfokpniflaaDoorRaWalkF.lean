/- Walks: passedOver. -/
import Derived.Test.YtkplkfokpniflaaDoorRaWalkE
namespace Go.Proofs.YtkplkfokpniflaaDoor.Ra
set_option linter.all false
open Go.RowKit
open Wr (Txt Any New bcells gt)

/-- the number that a ratchet's block says -/
def genAt (b : Nat) (w : World) : Int := match w.cell? ⟨b, 0, none⟩ with | some (.int _ i) => i | _ => 0
theorem genAt_of {q : RkQ} {b : Nat} {w : World} (h : RkB q w b) : genAt b w = q.g := by
  unfold genAt; rw [h.cs.1]
/-- ratchets that lie in a block, its parts elsewhere than in two blocks -/
def Ou (b : Nat) : Nat → Prop := fun y => y ≠ b ∧ y ≠ b + 1

set_option maxHeartbeats 4000000 in
set_option maxRecDepth 100000 in
theorem passedOver_is (q : RkQ) (r : Rk) (N : Nat) (w : World) (hT : Tabs w) (hq : RkIs Any w q r) (hr : Right r) (hg : r.gen + N < 1073741824) :
    Calls Tryd.prog 31 #[.agg q.cs, .int .i64 (r.gen + N)] w fun e w' => ∃ q', e = .returned (.agg (RkQ.cs q')) ∧ RkIs (fun b => b < w'.heap.size) w' q' (over N r) ∧ Below w.heap.size w w' := by
  obtain ⟨W2, hW2, g1, g2, hB2⟩ := two_rks w q zRQ
  have hlo := hr.lo
  have HT := Lib.hid hT; have HR := Lib.hid hr
  have B2 := Lib.hid hB2; have G2 := Lib.hid g2; have L2 := Lib.hid g2.lt
  have HI0 : Hid (RkIs (Ou w.heap.size) W2 q (over 0 r)) := Lib.hid ((hq.mono (S' := Ou w.heap.size) fun y hy _ => ⟨by omega, by omega⟩).below hB2)
  obtain ⟨rg, hrg⟩ : ∃ x, r.gen = x := ⟨_, rfl⟩
  have HRG := Lib.hid hrg
  rw [hrg] at hg hlo ⊢
  obtain ⟨ge, hge⟩ : ∃ x, rg + (N : Int) = x := ⟨_, rfl⟩
  rw [hge] at hg ⊢
  have HGE := Lib.hid hge
  have G1 := Lib.hid g1
  dsimp only [RkQ.cs, zRQ] at hW2 G2 ⊢
  obtain ⟨z0, z1, z2⟩ := g1.cs
  clear hT hq hr hB2 g1 g2 hrg hge
  go_enter Tryd.func31, Tryd.ntmps31
  go_wp2_with (rw [hW2])
  try rw [hW2]
  clear z0 z1 z2 hW2
  go_loopw [7] (fun _ W => ∃ (j : Nat) (q' : RkQ), j ≤ N ∧ Hid (RkB q' W w.heap.size) ∧ Hid (RkIs (Ou w.heap.size) W q' (over j r)) ∧ Hid (W2.grownBy W (some w.heap.size))) (fun _ W => (ge - genAt w.heap.size W).toNat)
  case atStart => exact ⟨0, q, by omega, G1, HI0, Lib.hid (World.grownBy.refl _ _)⟩
  case round =>
    obtain ⟨j, ⟨g, A, n, c, K, nk, ck⟩, hj, HB, HI, HG⟩ := hrel
    have HQG : Hid (g = rg + j) := Lib.hid (by have h1 := HI.out.g; rw [over_gen, HRG.out] at h1; exact h1)
    obtain ⟨s0, s1, s2⟩ := HB.out.cs
    dsimp only at s0 s1 s2
    have HZ : Hid (RkB ⟨0, none, 0, 0, none, 0, 0⟩ wr (w.heap.size + 1)) := Lib.hid ((HG.out.block _ L2.out (by intro e; injection e; omega)).trans G2.out)
    have HBr : Hid (Below w.heap.size w wr) := Lib.hid (B2.out.trans (below_grown HG.out (Nat.le_refl _) B2.out.size))
    by_cases hjN : j < N
    case neg =>
      obtain rfl : j = N := by omega
      have yg : ¬ g < ge := by have := HQG.out; have := HGE.out; omega
      go_wp2_with (refine wpList_store_row rfl 25 (.tmp 4) (.tmp 27) rfl (w.heap.size + 1) (RkQ.cs ⟨g, A, n, c, K, nk, ck⟩) rfl rfl 25 (RkQ.cs ⟨0, none, 0, 0, none, 0, 0⟩) HZ.out (rk_sized _) rfl (rk_all _) ?_)
      have HQZ := Lib.hid (setRow_heap wr (w.heap.size + 1) _ (RkQ.cs ⟨g, A, n, c, K, nk, ck⟩) 25 _ HZ.out)
      refine bodyPost_ret (v := .agg (RkQ.cs ⟨g, A, n, c, K, nk, ck⟩)) (results_cell_row (p := 4) (ty := 25) (by kernel_rfl) _ _ (w.heap.size + 1) 25 (RkQ.cs ⟨g, A, n, c, K, nk, ck⟩) (0, 0) _ rfl HQZ.out Tryd.underlying25 rfl (rk_sized _)) rfl ⟨⟨g, A, n, c, K, nk, ck⟩, rfl, ?_, below_setRow HBr.out (by omega) _⟩
      exact (HI.out.keep (by simp [World.setRow]) fun y hy _ => setRow_other wr _ y _ hy.2).mono fun y hy _ => hy
    have yg : g < ge := by have := HQG.out; have := HGE.out; omega
    obtain ⟨r', hr'⟩ : ∃ x, over j r = x := ⟨_, rfl⟩
    have HRI : Hid (Right r' ∧ r'.gen = g ∧ over (j + 1) r = pass r') := Lib.hid (by
      rw [over_succ, hr']
      refine ⟨by rw [← hr']; exact right_over j HR.out (by rw [HRG.out]; have := HGE.out; omega), ?_, rfl⟩
      rw [← hr', over_gen, HRG.out]; exact HQG.out.symm)
    rw [hr'] at HI
    obtain ⟨gp, hgp⟩ : ∃ x, g + 1 = x := ⟨_, rfl⟩
    have CS := stepped_is ⟨g, A, n, c, K, nk, ck⟩ r' wr (HT.out.at HBr.out) HI.out.any HRI.out.1 (by rw [HRI.out.2.1]; omega)
    dsimp only [RkQ.cs] at CS
    simp only [hgp] at CS
    have CSH := Lib.hid CS
    have HGP := Lib.hid hgp
    have HW2 := Lib.hid (show w.heap.size + 1 < wr.heap.size from Nat.lt_of_lt_of_le L2.out HG.out.size)
    clear CS hr' hgp hjN
    go_wp2_with fail
    refine CSH.out.mono ?_
    rintro e' w2 ⟨A1, c1, V, cv, A2, c2, rfl, hS⟩
    have HS := Lib.hid hS
    have b3 := (Below.refl w2.heap.size w2).alloc (Nat.le_refl _) (.cells (RkQ.cs ⟨gp, A1, 32, c1, V, nk, cv⟩) 25)
    have k3 := RkB.new ⟨gp, A1, 32, c1, V, nk, cv⟩ w2
    obtain ⟨w3, hw3⟩ : ∃ W, w2.alloc (.cells (RkQ.cs ⟨gp, A1, 32, c1, V, nk, cv⟩) 25) = W := ⟨_, rfl⟩
    obtain ⟨g3, hg3⟩ : ∃ g, w2.heap.size = g := ⟨_, rfl⟩
    rw [hw3] at b3 k3
    rw [hg3] at k3
    dsimp only [RkQ.cs] at hw3
    have HG3 : Hid (w2.heap.size = g3 ∧ wr.heap.size ≤ w2.heap.size) := Lib.hid ⟨hg3, hS.bel.size⟩
    have H3 := Lib.hid k3
    have HI3 : Hid (KdIs (fun y => wr.heap.size ≤ y ∧ y ≠ g3) w3 ⟨g, A2, 32, c2⟩ ⟨r'.gen, ky r'.sec r'.gen⟩) := Lib.hid ⟨HRI.out.2.1.symm, hS.key.below b3, ((hS.kin.and (txt_in hS.key)).mono fun y hy => ⟨hy.1, by have := hy.2; omega⟩)⟩
    have HO3 : Hid (OwnK (fun y => wr.heap.size ≤ y ∧ y ≠ g3) wr.heap.size w3 (.slice V nk cv) nk r'.kept) := Lib.hid ((hS.own.mono fun y hy h => ⟨h, by omega⟩).below b3)
    have HA3 : Hid (Txt Any w3 A1 32 c1 (nx r'.sec r'.gen)) := Lib.hid (hS.sec.below b3)
    have HAI : Hid (Inn (fun y => wr.heap.size ≤ y ∧ y ≠ g3) A1 32) := Lib.hid ((hS.sin.and (txt_in hS.sec)).mono fun y hy => ⟨hy.1, by have := hy.2; omega⟩)
    have HB3 : Hid (Below wr.heap.size wr w3) := Lib.hid (hS.bel.trans (b3.mono hS.bel.size))
    have b4 := (Below.refl w3.heap.size w3).alloc (Nat.le_refl _) (.cells (KdQ.cs ⟨g, A2, 32, c2⟩) 44)
    have ho := one_kd w3 _ ⟨g, A2, 32, c2⟩ _ HI3.out
    obtain ⟨w4, hw4⟩ : ∃ W, w3.alloc (.cells (KdQ.cs ⟨g, A2, 32, c2⟩) 44) = W := ⟨_, rfl⟩
    rw [hw4] at b4 ho
    dsimp only [KdQ.cs] at hw4
    have HM4 := Lib.hid ho; have HO4 := Lib.hid (HO3.out.below b4); have HA4 := Lib.hid (HA3.out.below b4); have HI4 := Lib.hid (HI3.out.below b4)
    have H4 := Lib.hid (H3.out.below b4 H3.out.lt)
    have HB4 := Lib.hid (HB3.out.trans (b4.mono HB3.out.size))
    have HFK := Lib.hid hS.kfar; have HFS := Lib.hid hS.sfar
    have HN4 : Hid (nk ≤ 16) := Lib.hid (by have h1 := hS.own.len; have h2 := HRI.out.1.many; dsimp only at h1; omega)
    have HB3b : Hid (RkB ⟨g, A, n, c, K, nk, ck⟩ w3 w.heap.size) := Lib.hid (HB.out.below HB3.out (by have := HW2.out; omega))
    obtain ⟨t0, t1, t2⟩ := H3.out.cs
    obtain ⟨u0, u1, u2⟩ := HB3b.out.cs
    dsimp only at t0 t1 t2 u0 u1 u2
    have HGG : Hid (g3 < w4.heap.size) := Lib.hid H4.out.lt
    clear hS b3 k3 b4 ho s0 s1 s2
    go_wp2_with (at_builtin; refine wpList_append_kd rfl (.tmp 17) (.tmp 22) rfl (fun y => wr.heap.size ≤ y ∧ y ≠ g3) wr.heap.size nk 1 1 (.slice V nk cv) r'.kept [⟨r'.gen, ky r'.sec r'.gen⟩] (some ⟨w3.heap.size, 0, none⟩) rfl rfl HO4.out HM4.out.1 (fun ad e j q' hj hat => by rw [HM4.out.2 ad e j q' hj hat]; exact ⟨HI4.out.inn, HFK.out⟩) (by have := HN4.out; omega) HB4.out.size ⟨HB4.out.size, by have := HGG.out; omega⟩ ?_)
    intro v' w5 hO hG5 hat
    obtain ⟨K6, c6, rfl⟩ := hO.slice
    obtain ⟨a6, rfl⟩ := hO.kds.some (by omega)
    have HK5 := Lib.hid hO.kds
    have H5 : Hid (RkB ⟨gp, A1, 32, c1, V, nk, cv⟩ w5 g3) := Lib.hid ((hG5.block g3 HGG.out (fun e => (HO4.out.own g3 e.symm).2 rfl)).trans H4.out)
    have HA5 : Hid (Txt Any w5 A1 32 c1 (nx r'.sec r'.gen)) := Lib.hid (txt_far HA4.out HFS.out hG5)
    have HB5 : Hid (Below wr.heap.size wr w5) := Lib.hid (below_ownG HB4.out HO4.out (Nat.le_refl _) HB4.out.size hG5)
    clear hO hG5 hat t0 t1 t2 u0 u1 u2 hw3 hw4
    obtain ⟨t0, t1, t2⟩ := H5.out.cs
    have f2 := H5.out.frozen 2
    dsimp only at t0 t1 t2
    go_wp2_with fail
    refine (lastOf_is _ a6 (nk + 1) c6 _ w5 HK5.out (by omega)).mono ?_
    rintro e' w6 ⟨K7, n7, c7, rfl, hK7, rfl⟩
    have HK7 := Lib.hid hK7
    obtain ⟨w7, hw7⟩ : ∃ W, w5.setCell ⟨g3, 2, none⟩ (.slice K7 n7 c7) = W := ⟨_, rfl⟩
    have hg7 : w5.grownBy w7 (some g3) := by rw [← hw7]; exact grown_set (World.grownBy.refl _ _) 2 _
    have k7 : RkB ⟨gp, A1, 32, c1, K7, n7, c7⟩ w7 g3 := by rw [← hw7]; exact H5.out.set2
    have hne : ∀ y, (wr.heap.size ≤ y ∧ y ≠ g3) → y < w5.heap.size → w7.heap[y]? = w5.heap[y]? := fun y hy hlt => hg7.block y hlt (by intro e; injection e with e; exact hy.2 e)
    have HI7 : Hid (RkIs (fun y => wr.heap.size ≤ y ∧ y ≠ g3) w7 ⟨gp, A1, 32, c1, K7, n7, c7⟩ (pass r')) := Lib.hid ⟨by show gp = r'.gen + 1; rw [HRI.out.2.1]; exact HGP.out.symm, txt_keep HA5.out HAI.out hg7.size hne, HAI.out, HK7.out.kept hg7.size hne⟩
    have HB7 : Hid (Below wr.heap.size wr w7) := Lib.hid (HB5.out.trans (below_grown hg7 (by have := HG3.out; omega) HB5.out.size))
    have HB7b : Hid (RkB ⟨g, A, n, c, K, nk, ck⟩ w7 w.heap.size) := Lib.hid (HB.out.below HB7.out (by have := HW2.out; omega))
    obtain ⟨v0, v1, v2⟩ := k7.cs
    dsimp only at v0 v1 v2
    clear hK7 hg7 k7 hne
    go_wp2_with (refine wpList_store_row rfl 25 (.tmp 2) (.tmp 26) rfl w.heap.size (RkQ.cs ⟨gp, A1, 32, c1, K7, n7, c7⟩) rfl rfl 25 (RkQ.cs ⟨g, A, n, c, K, nk, ck⟩) HB7b.out (rk_sized _) rfl (rk_all _) ?_)
    have HQ8 : Hid (RkB ⟨gp, A1, 32, c1, K7, n7, c7⟩ (w7.setRow w.heap.size (RkQ.cs ⟨gp, A1, 32, c1, K7, n7, c7⟩)) w.heap.size) := Lib.hid (setRow_heap w7 w.heap.size _ _ 25 _ HB7b.out)
    have HI8 : Hid (RkIs (Ou w.heap.size) (w7.setRow w.heap.size (RkQ.cs ⟨gp, A1, 32, c1, K7, n7, c7⟩)) ⟨gp, A1, 32, c1, K7, n7, c7⟩ (over (j + 1) r)) := Lib.hid (by
      rw [HRI.out.2.2]
      exact (HI7.out.keep (by simp [World.setRow]) fun y hy _ => setRow_other w7 _ y _ (by have := HW2.out; omega)).mono fun y _ hy => ⟨by have := HW2.out; omega, by have := HW2.out; omega⟩)
    have HG8 : Hid (W2.grownBy (w7.setRow w.heap.size (RkQ.cs ⟨gp, A1, 32, c1, K7, n7, c7⟩)) (some w.heap.size)) := Lib.hid (by
      have h := grown_below HG.out HB7.out
      exact ⟨h.os, h.tape, h.output, by simpa [World.setRow] using h.size, fun i hi hn => (setRow_other w7 _ i _ (by intro e; exact hn (by rw [e]))).trans (h.block i hi hn)⟩)
    have HM8 : Hid (genAt w.heap.size (w7.setRow w.heap.size (RkQ.cs ⟨gp, A1, 32, c1, K7, n7, c7⟩)) = gp ∧ genAt w.heap.size wr = g) := Lib.hid ⟨genAt_of HQ8.out, genAt_of HB.out⟩
    generalize w7.setRow w.heap.size (RkQ.cs ⟨gp, A1, 32, c1, K7, n7, c7⟩) = w8 at *
    clear v0 v1 v2 hw7 t0 t1 t2 f2
    try simp only [Act.put]
    go_roundw
    case rel => exact ⟨j + 1, ⟨gp, A1, 32, c1, K7, n7, c7⟩, by have := HQG.out; have := HGE.out; omega, HQ8, HI8, HG8⟩
    case measure => rw [HM8.out.1, HM8.out.2]; have := HGP.out; omega
end Go.Proofs.YtkplkfokpniflaaDoor.Ra
