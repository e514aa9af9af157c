/- head and Great of layer 17. Written by tools/mk_rahead.py. -/
import Derived.Test.YtkplkfokpniflaaDoorRaWalkJ
import Derived.Test.YtkplkfokpniflaaDoorRaWalkL
namespace Go.Proofs.YtkplkfokpniflaaDoor.Ra
set_option linter.all false
open Go.RowKit
open Wr (Txt Any New bcells gt byteRow)

/-- thirty-two bytes, all nought -/
def zs : List Nat := List.replicate 32 0
theorem zs_len : zs.length = 32 := List.length_replicate ..
theorem zs_lt : ∀ j, gt zs j < 256 := fun j => by
  unfold zs Wr.gt
  rw [List.getD_eq_getElem?_getD, List.getElem?_replicate]; split <;> simp
theorem gt_zs (j : Nat) : gt zs j = 0 := by
  unfold zs Wr.gt
  rw [List.getD_eq_getElem?_getD, List.getElem?_replicate]; split <;> rfl
theorem made_run (W : World) : (Instr.makeSlice 22 (.int .i64 32) (.int .i64 32)).run Tryd.prog W = .ok (.slice (some ⟨W.heap.size, 0, none⟩) 32 32) (W.alloc (.cells (madeCells #[.int .u8 0] 32) 5)) :=
  run_make_row' 22 5 (.int .u8 0) 1 (by kernel_rfl) (by kernel_rfl) rfl .i64 .i64 32 (by decide) (by decide) W
theorem made_txt (W : World) : Txt Any (W.alloc (.cells (madeCells #[.int .u8 0] 32) 5)) (some ⟨W.heap.size, 0, none⟩) 32 32 zs := by
  refine (Txt.of_row (base := 0) (h := W.heap.size) ?_ zs_len zs_lt (Nat.zero_le _) (by decide)).any
  refine (World.rowIs_made W (.int .u8 0) 32 5).congr fun i hi => ?_
  show _ = Value.int .u8 ((gt zs i : Nat) : Int)
  rw [gt_zs]; rfl
theorem secretR_len {e : List Nat} {deep leaf : Int} (he : e.length = 32) (h1 : 0 ≤ deep) (h2 : deep ≤ 16) (h3 : 0 ≤ leaf) (h4 : leaf < 2 ^ deep.toNat) : (secretR e deep leaf).length = 32 := by
  unfold secretR; rw [if_pos ⟨he, h1, h2, h3, h4⟩]; exact down_len _ _ _ he
theorem new_right {b : List Nat} (h : b.length = 32) : Right (newR b) := by
  rw [show newR b = ⟨0, b, []⟩ from if_pos h]
  exact ⟨Int.le_refl 0, by show (0 : Int) ≤ 1073741824; decide, h, Nat.zero_le _, rfl⟩
theorem head_plain : ∃ (r0 r1 r2 : Rk) (k1 k2 : List Nat), newR zs = r0 ∧ takeR r0 2 = (r1, k1, 0) ∧ k1.length = 32 ∧ takeR r1 0 = (r2, k2, 0) ∧ k2.length = 32 ∧ takeR r2 0 = (zR, [], 171) ∧ takeR r0 9 = (zR, [], 172) := by
  have hr := new_right zs_len
  have hg : (newR zs).gen = 0 := by rw [show newR zs = ⟨0, zs, []⟩ from if_pos zs_len]
  have h1 := take_on (g := 2) ((right_iff _).2 hr) (by rw [hg]; decide) (by rw [hg]; decide) (by decide)
  rw [hg] at h1
  have hr1 : Right (nextR (over 2 (newR zs))) := right_next (right_over 2 hr (by rw [hg]; decide)) (by rw [over_gen, hg]; decide)
  have hg1 : (nextR (over 2 (newR zs))).gen = 3 := by show (over 2 (newR zs)).gen + 1 = 3; rw [over_gen, hg]; rfl
  obtain ⟨x, y, hk⟩ : ∃ x y : List Nat, (nextR (over 2 (newR zs))).kept = [⟨0, x⟩, ⟨1, y⟩] ∧ x.length = 32 := by
    rw [show newR zs = ⟨0, zs, []⟩ from if_pos zs_len]
    obtain ⟨x, hx⟩ : ∃ x, ky zs 0 = x := ⟨_, rfl⟩
    obtain ⟨s, hs⟩ : ∃ x, nx zs 0 = x := ⟨_, rfl⟩
    have e1 : pass ⟨0, zs, []⟩ = ⟨1, s, [⟨0, x⟩]⟩ := by unfold pass; rw [hx, hs]; rfl
    obtain ⟨y, hy⟩ : ∃ x, ky s 1 = x := ⟨_, rfl⟩
    refine ⟨x, y, ?_, by rw [← hx]; exact ky_len _ _⟩
    show (pass (pass ⟨0, zs, []⟩)).kept = _
    rw [e1]; unfold pass
    show l16 ([⟨0, x⟩] ++ [⟨1, ky s 1⟩]) = _
    rw [hy]; rfl
  have hat : at' 0 (nextR (over 2 (newR zs))).kept = some 0 := by rw [hk.1]; rfl
  have h2 := take_past (g := 0) ((right_iff _).2 hr1) (by rw [hg1]; decide)
  have h2' : keptR (nextR (over 2 (newR zs))) 0 = (⟨(nextR (over 2 (newR zs))).gen, (nextR (over 2 (newR zs))).sec, [⟨1, y⟩]⟩, x, 0) := by unfold keptR; rw [hat, hk.1]; rfl
  have hr2 : Right ⟨(nextR (over 2 (newR zs))).gen, (nextR (over 2 (newR zs))).sec, [⟨1, y⟩]⟩ := by
    have h := right_erase hr1 0
    rw [hk.1] at h; exact h
  have h3 := take_past (g := 0) ((right_iff _).2 hr2) (by show 0 < (nextR (over 2 (newR zs))).gen; rw [hg1]; decide)
  have h4 := take_far (g := 9) ((right_iff _).2 hr) (by rw [hg]; decide) (by rw [hg]; decide)
  exact ⟨_, _, _, _, _, rfl, h1, ky_len _ _, h2.trans h2', hk.2, h3.trans (by unfold keptR; rfl), h4⟩

set_option maxHeartbeats 4000000 in
set_option maxRecDepth 100000 in
theorem head_any (w : World) (hT : Tabs w) : Calls Tryd.prog 8 #[] w fun e w' => e = .returned (.bool true) ∧ Below w.heap.size w w' := by
  have HT := Lib.hid hT
  obtain ⟨r0, r1, r2, k1, k2, h0, h1, l1, h2, l2, h3, h4⟩ := head_plain
  have H1 := Lib.hid h1; have H2 := Lib.hid h2; have H3 := Lib.hid h3; have H4 := Lib.hid h4
  have HL1 := Lib.hid l1; have HL2 := Lib.hid l2; have H0 := Lib.hid h0
  have hmk := made_run w
  have ba := (Below.refl w.heap.size w).alloc (Nat.le_refl _) (.cells (madeCells #[.int .u8 0] 32) 5)
  have za := made_txt w
  obtain ⟨w1, hw1⟩ : ∃ W, w.alloc (.cells (madeCells #[.int .u8 0] 32) 5) = W := ⟨_, rfl⟩
  rw [hw1] at ba za
  simp only [hw1] at hmk
  have B_w1 := Lib.hid ba; have Z_w1 := Lib.hid za
  clear ba za h0 h1 l1 h2 l2 h3 h4 hT
  go_enter Tryd.func8, Tryd.ntmps8
  go_wp2_with fail
  refine (new_is (some ⟨w.heap.size, 0, none⟩) zs 32 32 w1 Z_w1.out).mono ?_
  rintro e' w2 ⟨⟨g0, A0, n0, c0, K0, nk0, ck0⟩, rfl, hI, hb⟩
  rw [H0.out] at hI
  dsimp only [RkQ.cs]
  have I0_w2 := Lib.hid hI.any; have B_w2 := Lib.hid (B_w1.out.trans (hb.mono B_w1.out.size))
  clear hI hb B_w1 Z_w1
  have hb := (Below.refl w2.heap.size w2).alloc (Nat.le_refl _) (.cells (RkQ.cs ⟨g0, A0, n0, c0, K0, nk0, ck0⟩) 25)
  have hk := RkB.new ⟨g0, A0, n0, c0, K0, nk0, ck0⟩ w2
  obtain ⟨w0b, hw0⟩ : ∃ W, w2.alloc (.cells (RkQ.cs ⟨g0, A0, n0, c0, K0, nk0, ck0⟩) 25) = W := ⟨_, rfl⟩
  obtain ⟨b0, hb0⟩ : ∃ g, w2.heap.size = g := ⟨_, rfl⟩
  rw [hw0] at hb hk
  rw [hb0] at hk
  dsimp only [RkQ.cs] at hw0
  have R0_w0b := Lib.hid hk
  have I0_w0b := Lib.hid (I0_w2.out.below hb)
  have B_w0b := Lib.hid (B_w2.out.trans (hb.mono B_w2.out.size))
  clear B_w2 I0_w2
  clear hb hk
  obtain ⟨s0, s1, s2⟩ := R0_w0b.out.cs
  dsimp only at s0 s1 s2
  have CT := take_is ⟨g0, A0, n0, c0, K0, nk0, ck0⟩ r0 2 w0b (HT.out.at B_w0b.out) I0_w0b.out.any (by omega)
  rw [H1.out] at CT
  have CTH := Lib.hid CT
  clear CT
  dsimp only [RkQ.cs] at CTH
  go_wp2_with fail
  refine CTH.out.mono ?_
  rintro e' w1t ⟨⟨g1, A1, n1, c1, K1, nk1, ck1⟩, P1, m1, d1, rfl, hI, hX, hXI, hb⟩
  dsimp only [RkQ.cs]
  have I1_w1t := Lib.hid hI.any; have X1_w1t := Lib.hid hX
  have I0_w1t := Lib.hid (I0_w0b.out.below hb)
  have R0_w1t := Lib.hid (R0_w0b.out.below hb R0_w0b.out.lt)
  have B_w1t := Lib.hid (B_w0b.out.trans (hb.mono B_w0b.out.size))
  clear B_w0b I0_w0b R0_w0b
  clear hI hX hXI hb CTH
  have hb := (Below.refl w1t.heap.size w1t).alloc (Nat.le_refl _) (.cells (RkQ.cs ⟨g1, A1, n1, c1, K1, nk1, ck1⟩) 25)
  have hk := RkB.new ⟨g1, A1, n1, c1, K1, nk1, ck1⟩ w1t
  obtain ⟨w1b, hw1⟩ : ∃ W, w1t.alloc (.cells (RkQ.cs ⟨g1, A1, n1, c1, K1, nk1, ck1⟩) 25) = W := ⟨_, rfl⟩
  obtain ⟨b1, hb1⟩ : ∃ g, w1t.heap.size = g := ⟨_, rfl⟩
  rw [hw1] at hb hk
  rw [hb1] at hk
  dsimp only [RkQ.cs] at hw1
  have R1_w1b := Lib.hid hk
  have I0_w1b := Lib.hid (I0_w1t.out.below hb)
  have R0_w1b := Lib.hid (R0_w1t.out.below hb R0_w1t.out.lt)
  have I1_w1b := Lib.hid (I1_w1t.out.below hb)
  have X1_w1b := Lib.hid (X1_w1t.out.below hb)
  have B_w1b := Lib.hid (B_w1t.out.trans (hb.mono B_w1t.out.size))
  clear B_w1t I0_w1t R0_w1t I1_w1t X1_w1t
  clear hb hk
  clear s0 s1 s2
  obtain ⟨s0, s1, s2⟩ := R1_w1b.out.cs
  dsimp only at s0 s1 s2
  have CT := take_is ⟨g1, A1, n1, c1, K1, nk1, ck1⟩ r1 0 w1b (HT.out.at B_w1b.out) I1_w1b.out.any (by omega)
  rw [H2.out] at CT
  have CTH := Lib.hid CT
  clear CT
  dsimp only [RkQ.cs] at CTH
  go_wp2_with fail
  refine CTH.out.mono ?_
  rintro e' w2t ⟨⟨g2, A2, n2, c2, K2, nk2, ck2⟩, P2, m2, d2, rfl, hI, hX, hXI, hb⟩
  dsimp only [RkQ.cs]
  have I2_w2t := Lib.hid hI.any; have X2_w2t := Lib.hid hX
  have I0_w2t := Lib.hid (I0_w1b.out.below hb)
  have R0_w2t := Lib.hid (R0_w1b.out.below hb R0_w1b.out.lt)
  have I1_w2t := Lib.hid (I1_w1b.out.below hb)
  have X1_w2t := Lib.hid (X1_w1b.out.below hb)
  have R1_w2t := Lib.hid (R1_w1b.out.below hb R1_w1b.out.lt)
  have B_w2t := Lib.hid (B_w1b.out.trans (hb.mono B_w1b.out.size))
  clear B_w1b I0_w1b R0_w1b I1_w1b X1_w1b R1_w1b
  clear hI hX hXI hb CTH
  have hb := (Below.refl w2t.heap.size w2t).alloc (Nat.le_refl _) (.cells (RkQ.cs ⟨g2, A2, n2, c2, K2, nk2, ck2⟩) 25)
  have hk := RkB.new ⟨g2, A2, n2, c2, K2, nk2, ck2⟩ w2t
  obtain ⟨w2b, hw2⟩ : ∃ W, w2t.alloc (.cells (RkQ.cs ⟨g2, A2, n2, c2, K2, nk2, ck2⟩) 25) = W := ⟨_, rfl⟩
  obtain ⟨b2, hb2⟩ : ∃ g, w2t.heap.size = g := ⟨_, rfl⟩
  rw [hw2] at hb hk
  rw [hb2] at hk
  dsimp only [RkQ.cs] at hw2
  have R2_w2b := Lib.hid hk
  have I0_w2b := Lib.hid (I0_w2t.out.below hb)
  have R0_w2b := Lib.hid (R0_w2t.out.below hb R0_w2t.out.lt)
  have I1_w2b := Lib.hid (I1_w2t.out.below hb)
  have X1_w2b := Lib.hid (X1_w2t.out.below hb)
  have R1_w2b := Lib.hid (R1_w2t.out.below hb R1_w2t.out.lt)
  have I2_w2b := Lib.hid (I2_w2t.out.below hb)
  have X2_w2b := Lib.hid (X2_w2t.out.below hb)
  have B_w2b := Lib.hid (B_w2t.out.trans (hb.mono B_w2t.out.size))
  clear B_w2t I0_w2t R0_w2t I1_w2t X1_w2t R1_w2t I2_w2t X2_w2t
  clear hb hk
  clear s0 s1 s2
  obtain ⟨s0, s1, s2⟩ := R2_w2b.out.cs
  dsimp only at s0 s1 s2
  have CT := take_is ⟨g2, A2, n2, c2, K2, nk2, ck2⟩ r2 0 w2b (HT.out.at B_w2b.out) I2_w2b.out.any (by omega)
  rw [H3.out] at CT
  have CTH := Lib.hid CT
  clear CT
  dsimp only [RkQ.cs] at CTH
  go_wp2_with fail
  refine CTH.out.mono ?_
  rintro e' w3t ⟨⟨g3, A3, n3, c3, K3, nk3, ck3⟩, P3, m3, d3, rfl, hI, hX, hXI, hb⟩
  dsimp only [RkQ.cs]
  have I3_w3t := Lib.hid hI.any; have X3_w3t := Lib.hid hX
  have I0_w3t := Lib.hid (I0_w2b.out.below hb)
  have R0_w3t := Lib.hid (R0_w2b.out.below hb R0_w2b.out.lt)
  have I1_w3t := Lib.hid (I1_w2b.out.below hb)
  have X1_w3t := Lib.hid (X1_w2b.out.below hb)
  have R1_w3t := Lib.hid (R1_w2b.out.below hb R1_w2b.out.lt)
  have I2_w3t := Lib.hid (I2_w2b.out.below hb)
  have X2_w3t := Lib.hid (X2_w2b.out.below hb)
  have R2_w3t := Lib.hid (R2_w2b.out.below hb R2_w2b.out.lt)
  have B_w3t := Lib.hid (B_w2b.out.trans (hb.mono B_w2b.out.size))
  clear B_w2b I0_w2b R0_w2b I1_w2b X1_w2b R1_w2b I2_w2b X2_w2b R2_w2b
  clear hI hX hXI hb CTH
  have hb := (Below.refl w3t.heap.size w3t).alloc (Nat.le_refl _) (.cells (RkQ.cs ⟨g3, A3, n3, c3, K3, nk3, ck3⟩) 25)
  have hk := RkB.new ⟨g3, A3, n3, c3, K3, nk3, ck3⟩ w3t
  obtain ⟨w3b, hw3⟩ : ∃ W, w3t.alloc (.cells (RkQ.cs ⟨g3, A3, n3, c3, K3, nk3, ck3⟩) 25) = W := ⟨_, rfl⟩
  obtain ⟨b3, hb3⟩ : ∃ g, w3t.heap.size = g := ⟨_, rfl⟩
  rw [hw3] at hb hk
  rw [hb3] at hk
  dsimp only [RkQ.cs] at hw3
  have R3_w3b := Lib.hid hk
  have I0_w3b := Lib.hid (I0_w3t.out.below hb)
  have R0_w3b := Lib.hid (R0_w3t.out.below hb R0_w3t.out.lt)
  have I1_w3b := Lib.hid (I1_w3t.out.below hb)
  have X1_w3b := Lib.hid (X1_w3t.out.below hb)
  have R1_w3b := Lib.hid (R1_w3t.out.below hb R1_w3t.out.lt)
  have I2_w3b := Lib.hid (I2_w3t.out.below hb)
  have X2_w3b := Lib.hid (X2_w3t.out.below hb)
  have R2_w3b := Lib.hid (R2_w3t.out.below hb R2_w3t.out.lt)
  have I3_w3b := Lib.hid (I3_w3t.out.below hb)
  have X3_w3b := Lib.hid (X3_w3t.out.below hb)
  have B_w3b := Lib.hid (B_w3t.out.trans (hb.mono B_w3t.out.size))
  clear B_w3t I0_w3t R0_w3t I1_w3t X1_w3t R1_w3t I2_w3t X2_w3t R2_w3t I3_w3t X3_w3t
  clear hb hk
  clear s0 s1 s2
  obtain ⟨s0, s1, s2⟩ := R0_w3b.out.cs
  dsimp only at s0 s1 s2
  have CT := take_is ⟨g0, A0, n0, c0, K0, nk0, ck0⟩ r0 9 w3b (HT.out.at B_w3b.out) I0_w3b.out.any (by omega)
  rw [H4.out] at CT
  have CTH := Lib.hid CT
  clear CT
  dsimp only [RkQ.cs] at CTH
  go_wp2_with fail
  refine CTH.out.mono ?_
  rintro e' w4t ⟨⟨g4, A4, n4, c4, K4, nk4, ck4⟩, P4, m4, d4, rfl, hI, hX, hXI, hb⟩
  dsimp only [RkQ.cs]
  have I4_w4t := Lib.hid hI.any; have X4_w4t := Lib.hid hX
  have I0_w4t := Lib.hid (I0_w3b.out.below hb)
  have R0_w4t := Lib.hid (R0_w3b.out.below hb R0_w3b.out.lt)
  have I1_w4t := Lib.hid (I1_w3b.out.below hb)
  have X1_w4t := Lib.hid (X1_w3b.out.below hb)
  have R1_w4t := Lib.hid (R1_w3b.out.below hb R1_w3b.out.lt)
  have I2_w4t := Lib.hid (I2_w3b.out.below hb)
  have X2_w4t := Lib.hid (X2_w3b.out.below hb)
  have R2_w4t := Lib.hid (R2_w3b.out.below hb R2_w3b.out.lt)
  have I3_w4t := Lib.hid (I3_w3b.out.below hb)
  have X3_w4t := Lib.hid (X3_w3b.out.below hb)
  have R3_w4t := Lib.hid (R3_w3b.out.below hb R3_w3b.out.lt)
  have B_w4t := Lib.hid (B_w3b.out.trans (hb.mono B_w3b.out.size))
  clear B_w3b I0_w3b R0_w3b I1_w3b X1_w3b R1_w3b I2_w3b X2_w3b R2_w3b I3_w3b X3_w3b R3_w3b
  clear hI hX hXI hb CTH
  have hb := (Below.refl w4t.heap.size w4t).alloc (Nat.le_refl _) (.cells (RkQ.cs ⟨g4, A4, n4, c4, K4, nk4, ck4⟩) 25)
  have hk := RkB.new ⟨g4, A4, n4, c4, K4, nk4, ck4⟩ w4t
  obtain ⟨w4b, hw4⟩ : ∃ W, w4t.alloc (.cells (RkQ.cs ⟨g4, A4, n4, c4, K4, nk4, ck4⟩) 25) = W := ⟨_, rfl⟩
  obtain ⟨b4, hb4⟩ : ∃ g, w4t.heap.size = g := ⟨_, rfl⟩
  rw [hw4] at hb hk
  rw [hb4] at hk
  dsimp only [RkQ.cs] at hw4
  have R4_w4b := Lib.hid hk
  have I0_w4b := Lib.hid (I0_w4t.out.below hb)
  have R0_w4b := Lib.hid (R0_w4t.out.below hb R0_w4t.out.lt)
  have I1_w4b := Lib.hid (I1_w4t.out.below hb)
  have X1_w4b := Lib.hid (X1_w4t.out.below hb)
  have R1_w4b := Lib.hid (R1_w4t.out.below hb R1_w4t.out.lt)
  have I2_w4b := Lib.hid (I2_w4t.out.below hb)
  have X2_w4b := Lib.hid (X2_w4t.out.below hb)
  have R2_w4b := Lib.hid (R2_w4t.out.below hb R2_w4t.out.lt)
  have I3_w4b := Lib.hid (I3_w4t.out.below hb)
  have X3_w4b := Lib.hid (X3_w4t.out.below hb)
  have R3_w4b := Lib.hid (R3_w4t.out.below hb R3_w4t.out.lt)
  have I4_w4b := Lib.hid (I4_w4t.out.below hb)
  have X4_w4b := Lib.hid (X4_w4t.out.below hb)
  have B_w4b := Lib.hid (B_w4t.out.trans (hb.mono B_w4t.out.size))
  clear B_w4t I0_w4t R0_w4t I1_w4t X1_w4t R1_w4t I2_w4t X2_w4t R2_w4t I3_w4t X3_w4t R3_w4t I4_w4t X4_w4t
  clear hb hk
  clear s0 s1 s2
  have e1 : m1 = 32 := by rw [← X1_w4b.out.len]; exact HL1.out
  have e2 : m2 = 32 := by rw [← X2_w4b.out.len]; exact HL2.out
  subst e1 e2
  have hmk := made_run w4b
  have ba := (Below.refl w4b.heap.size w4b).alloc (Nat.le_refl _) (.cells (madeCells #[.int .u8 0] 32) 5)
  have za := made_txt w4b
  obtain ⟨w9, hw9⟩ : ∃ W, w4b.alloc (.cells (madeCells #[.int .u8 0] 32) 5) = W := ⟨_, rfl⟩
  rw [hw9] at ba za
  simp only [hw9] at hmk
  have B_w9 := Lib.hid (B_w4b.out.trans (ba.mono B_w4b.out.size)); have Z_w9 := Lib.hid za
  have HT9 := Lib.hid (HT.out.at B_w9.out)
  clear ba za
  go_wp2_with fail
  refine (secret_is (some ⟨w4b.heap.size, 0, none⟩) zs 32 32 2 3 w9 HT9.out Z_w9.out).mono ?_
  rintro e' w10 ⟨A9, m9, d9, rfl, hX, hb⟩
  obtain rfl : m9 = 32 := by rw [← hX.len]; exact secretR_len (by exact zs_len) (by decide) (by decide) (by decide) (by decide)
  have BF := Lib.hid (B_w9.out.trans (hb.mono B_w9.out.size))
  clear hX hb
  go_wp2
  go_ret
  exact ⟨rfl, BF.out⟩

set_option maxHeartbeats 1000000 in
theorem great_any (q : RkQ) (r : Rk) (b : Bool) (w : World) (hq : RkIs Any w q r) (hb : (decide (1000 < r.sec.length) || decide (100 < r.kept.length)) = b) : Calls Tryd.prog 9 #[.agg q.cs] w fun e w' => e = .returned (.bool b) ∧ Below w.heap.size w w' := by
  obtain ⟨W0, hW0, g1, hB0⟩ := one_rk w q
  have B0 := Lib.hid hB0
  have hs := hq.sec.len; have hk := hq.kept.len
  obtain ⟨s0, s1, s2⟩ := g1.cs
  obtain ⟨g, A, n, c, K, nk, ck⟩ := q
  dsimp only [RkQ.cs] at *
  rw [hs, hk] at hb
  clear hq hs hk g1 hB0
  by_cases h1 : 1000 < n
  · obtain rfl : true = b := by rw [← hb, decide_eq_true h1]; rfl
    have y1 : (n : Int) > 1000 := by omega
    clear hb h1
    go_enter Tryd.func9, Tryd.ntmps9
    go_wp2
    go_ret
    exact ⟨rfl, B0.out⟩
  have y1 : ¬ (n : Int) > 1000 := by omega
  by_cases h2 : 100 < nk
  · obtain rfl : true = b := by rw [← hb, decide_eq_true h2]; simp
    have y2 : (nk : Int) > 100 := by omega
    clear hb h1 h2
    go_enter Tryd.func9, Tryd.ntmps9
    go_wp2
    go_ret
    exact ⟨rfl, B0.out⟩
  have y2 : ¬ (nk : Int) > 100 := by omega
  obtain rfl : false = b := by rw [← hb, decide_eq_false h1, decide_eq_false h2]; rfl
  clear hb h1 h2
  go_enter Tryd.func9, Tryd.ntmps9
  go_wp2
  go_ret
  exact ⟨rfl, B0.out⟩
end Go.Proofs.YtkplkfokpniflaaDoor.Ra
