/- SchedSame: the walk. Written by tools/mk_scsame.py. -/
import Derived.Test.YtikafijdfgkgkaaDoorScWalkD
namespace Go.Proofs.YtikafijdfgkgkaaDoor.Sc
set_option linter.all false
open Go.RowKit
open Wr (Txt TxtL Any New bcells gt own_slice_of below_own wpList_append_txt)

set_option maxHeartbeats 8000000 in
set_option maxRecDepth 100000 in
theorem schedSame_walk (A : Option Addr) (i : List Nat) (n1 c1 : Nat) (B : Option Addr) (c : List Nat) (n2 c2 : Nat) (C : Option Addr) (x : List Nat) (n3 c3 : Nat) (l : ByteArray) (n : Int) (w : World) (hT : Tabs w) (hA : Txt Any w A n1 c1 i) (hB : Txt Any w B n2 c2 c) (hC : Txt Any w C n3 c3 x) (hn : (Lit.int .u8 n).wf = true) :
    Calls Tryd.prog 5 #[.slice A n1 c1, .slice B n2 c2, .slice C n3 c3, .string l, .int .u8 n] w fun e w' => e = .returned (.bool true) ∧ Below w.heap.size w w' := by
  obtain ⟨nn, rfl, hnn⟩ := Sha.byte_of_wf hn
  have HT := Lib.hid hT; have HI := Lib.hid hA; have HC := Lib.hid hB; have HX := Lib.hid hC
  obtain ⟨j, hj⟩ : ∃ j, jn i c x = j := ⟨_, rfl⟩
  have HJ := Lib.hid hj
  have HJL : Hid (∀ k, gt j k < 256) := Lib.hid (by rw [← hj]; exact jn_lt _ _ _)
  clear hT hA hB hC hj hn
  go_enter Tryd.func5, Tryd.ntmps5
  go_wp2_with fail
  refine (head_any _ HT.out).mono ?_
  rintro e' w1 ⟨rfl, hb⟩
  have B1 := Lib.hid hb
  clear hb
  by_cases h1 : 20000 < n1
  case pos =>
    go_wp2_with fail
    refine (great_yes A n1 c1 _ h1).mono ?_
    rintro e' w2 ⟨rfl, rfl⟩
    go_wp2
    go_ret
    exact ⟨rfl, B1.out⟩
  go_wp2_with fail
  refine (great_no A n1 c1 _ (by omega)).mono ?_
  rintro e' w2 ⟨rfl, rfl⟩
  by_cases h2 : 20000 < n2
  case pos =>
    go_wp2_with fail
    refine (great_yes B n2 c2 _ h2).mono ?_
    rintro e' w2 ⟨rfl, rfl⟩
    go_wp2
    go_ret
    exact ⟨rfl, B1.out⟩
  go_wp2_with fail
  refine (great_no B n2 c2 _ (by omega)).mono ?_
  rintro e' w2 ⟨rfl, rfl⟩
  by_cases h3 : 20000 < n3
  case pos =>
    go_wp2_with fail
    refine (great_yes C n3 c3 _ h3).mono ?_
    rintro e' w2 ⟨rfl, rfl⟩
    go_wp2
    go_ret
    exact ⟨rfl, B1.out⟩
  go_wp2_with fail
  refine (great_no C n3 c3 _ (by omega)).mono ?_
  rintro e' w2 ⟨rfl, rfl⟩
  by_cases h4 : 40 < l.size
  case pos =>
    have y4 : (40 : Int) < (l.size : Int) := by omega
    go_wp2
    go_ret
    exact ⟨rfl, B1.out⟩
  have y4 : ¬ (40 : Int) < (l.size : Int) := by omega
  go_wp2_with fail
  refine (joiner_any A B C i c x n1 c1 n2 c2 n3 c3 w1 (HT.out.at B1.out) (HI.out.below B1.out) (HC.out.below B1.out) (HX.out.below B1.out) (by omega) (by omega) (by omega)).mono ?_
  rw [HJ.out]
  rintro e' w2 ⟨JA, jm, jd, rfl, hX, hb⟩
  obtain rfl : jm = 32 := by rw [← hX.2.1, ← HJ.out]; exact jn_len _ _ _
  have B2 := Lib.hid (B1.out.trans (hb.mono B1.out.size)); have J2 := Lib.hid hX.any
  clear hX hb B1
  go_wp2_with fail
  refine (derive_any JA C j x 32 jd n3 c3 w2 (HT.out.at B2.out) J2.out (HX.out.below B2.out) (by omega) (by omega)).mono ?_
  rintro e' w3 ⟨⟨P0, p0, u0, P1, p1, u1, P2, p2, u2, P3, p3, u3, P4, p4, u4, P5, p5, u5, P6, p6, u6⟩, rfl, hE, hb⟩
  dsimp only
  have hl0 := hE.t0.2.1
  dsimp only at hl0
  obtain rfl : p0 = 32 := by rw [← hl0, ep_wel]; exact lb_len (by decide) (by simp)
  clear hl0
  have hl1 := hE.t1.2.1
  dsimp only at hl1
  obtain rfl : p1 = 32 := by rw [← hl1, ep_sec]; exact lb_len (by decide) (sh_len _)
  clear hl1
  have hl2 := hE.t2.2.1
  dsimp only at hl2
  obtain rfl : p2 = 32 := by rw [← hl2, ep_enc]; exact lb_len (by decide) (by simp)
  clear hl2
  have hl3 := hE.t3.2.1
  dsimp only at hl3
  obtain rfl : p3 = 32 := by rw [← hl3, ep_exp]; exact lb_len (by decide) (by simp)
  clear hl3
  have hl4 := hE.t4.2.1
  dsimp only at hl4
  obtain rfl : p4 = 32 := by rw [← hl4, ep_con]; exact lb_len (by decide) (by simp)
  clear hl4
  have hl5 := hE.t5.2.1
  dsimp only at hl5
  obtain rfl : p5 = 32 := by rw [← hl5, ep_mem]; exact lb_len (by decide) (by simp)
  clear hl5
  have hl6 := hE.t6.2.1
  dsimp only at hl6
  obtain rfl : p6 = 32 := by rw [← hl6, ep_ini]; exact lb_len (by decide) (by simp)
  clear hl6
  have B3 := Lib.hid (B2.out.trans (hb.mono B2.out.size)); have E3 := Lib.hid hE.any
  clear hE hb B2 J2
  have b0 := (Below.refl w3.heap.size w3).alloc (Nat.le_refl _) (.cells #[.slice P0 32 u0, .slice P1 32 u1, .slice P2 32 u2, .slice P3 32 u3, .slice P4 32 u4, .slice P5 32 u5, .slice P6 32 u6] 28)
  have r0 := Row7.new w3 (.slice P0 32 u0) (.slice P1 32 u1) (.slice P2 32 u2) (.slice P3 32 u3) (.slice P4 32 u4) (.slice P5 32 u5) (.slice P6 32 u6)
  obtain ⟨w4, hw4⟩ : ∃ W, w3.alloc (.cells #[.slice P0 32 u0, .slice P1 32 u1, .slice P2 32 u2, .slice P3 32 u3, .slice P4 32 u4, .slice P5 32 u5, .slice P6 32 u6] 28) = W := ⟨_, rfl⟩
  obtain ⟨g1, hg1⟩ : ∃ g, w3.heap.size = g := ⟨_, rfl⟩
  rw [hw4] at b0 r0
  rw [hg1] at r0
  have B4 := Lib.hid (B3.out.trans (b0.mono B3.out.size)); have R4 := Lib.hid r0; have L4 := Lib.hid r0.lt; have E4 := Lib.hid (E3.out.below b0)
  clear b0 r0 E3
  have HNIL := Lib.hid (Wr.nil_own w4 (base := w4.heap.size) (Nat.le_refl _))
  have b1 := B4.out.alloc (Nat.le_trans (Nat.le_refl _) B4.out.size) (.cells #[] 5)
  have bz := (Below.refl w4.heap.size w4).alloc (Nat.le_refl _) (.cells #[] 5)
  have B5 := Lib.hid b1; have BZ := Lib.hid bz
  clear b1 bz
  go_wp2_with fail
  try rw [hw4]
  try rw [hg1]
  clear hw4 hg1 B3
  refine (joiner_any A B C i c x n1 c1 n2 c2 n3 c3 _ (HT.out.at B5.out) (HI.out.below B5.out) (HC.out.below B5.out) (HX.out.below B5.out) (by omega) (by omega) (by omega)).mono ?_
  rw [HJ.out]
  rintro e' w5 ⟨JB, jm, je, rfl, hX, hb⟩
  obtain rfl : jm = 32 := by rw [← hX.2.1, ← HJ.out]; exact jn_len _ _ _
  have J5 := Lib.hid hX.any; have O5 := Lib.hid (Sha.own_gen HNIL.out hb)
  have BX := Lib.hid (BZ.out.trans (hb.mono BZ.out.size))
  clear hX hb HNIL BZ B5
  go_wp2_with (at_builtin; refine wpList_append_txt rfl (.tmp 38) (.tmp 42) rfl w4.heap.size 0 32 je _ [] j JB Any rfl rfl O5.out J5.out (by omega) BX.out.size ?_)
  intro v' w6 hown hgrow hat
  have BY := Lib.hid (below_own BX.out O5.out (Nat.le_refl _) hgrow)
  try simp only [Nat.zero_add, List.nil_append] at hown
  obtain ⟨TA, tc, rfl, hX⟩ := Txt.of_own hown HJL.out
  have J6 := Lib.hid hX.any; have B6 := Lib.hid (B4.out.trans (BY.out.mono B4.out.size))
  have R6 := Lib.hid (R4.out.below BY.out L4.out); have E6 := Lib.hid (E4.out.below BY.out)
  clear hown hgrow hat hX BX O5 J5 R4 E4 B4 L4 BY
  have L6 := Lib.hid R6.out.lt
  go_wp2_with fail
  refine (derive_any TA C j x 32 tc n3 c3 w6 (HT.out.at B6.out) J6.out (HX.out.below B6.out) (by omega) (by omega)).mono ?_
  rintro e' w7 ⟨⟨Z0, y0, z0, Z1, y1, z1, Z2, y2, z2, Z3, y3, z3, Z4, y4, z4, Z5, y5, z5, Z6, y6, z6⟩, rfl, hE, hb⟩
  dsimp only
  have hl0 := hE.t0.2.1
  dsimp only at hl0
  obtain rfl : y0 = 32 := by rw [← hl0, ep_wel]; exact lb_len (by decide) (by simp)
  clear hl0
  have hl1 := hE.t1.2.1
  dsimp only at hl1
  obtain rfl : y1 = 32 := by rw [← hl1, ep_sec]; exact lb_len (by decide) (sh_len _)
  clear hl1
  have hl2 := hE.t2.2.1
  dsimp only at hl2
  obtain rfl : y2 = 32 := by rw [← hl2, ep_enc]; exact lb_len (by decide) (by simp)
  clear hl2
  have hl3 := hE.t3.2.1
  dsimp only at hl3
  obtain rfl : y3 = 32 := by rw [← hl3, ep_exp]; exact lb_len (by decide) (by simp)
  clear hl3
  have hl4 := hE.t4.2.1
  dsimp only at hl4
  obtain rfl : y4 = 32 := by rw [← hl4, ep_con]; exact lb_len (by decide) (by simp)
  clear hl4
  have hl5 := hE.t5.2.1
  dsimp only at hl5
  obtain rfl : y5 = 32 := by rw [← hl5, ep_mem]; exact lb_len (by decide) (by simp)
  clear hl5
  have hl6 := hE.t6.2.1
  dsimp only at hl6
  obtain rfl : y6 = 32 := by rw [← hl6, ep_ini]; exact lb_len (by decide) (by simp)
  clear hl6
  have B7 := Lib.hid (B6.out.trans (hb.mono B6.out.size)); have F7 := Lib.hid hE.any
  have R7 := Lib.hid (R6.out.below hb L6.out); have E7 := Lib.hid (E6.out.below hb)
  have L7 := Lib.hid R7.out.lt
  clear hE hb B6 J6 R6 E6 L6
  have b0 := (Below.refl w7.heap.size w7).alloc (Nat.le_refl _) (.cells #[.slice Z0 32 z0, .slice Z1 32 z1, .slice Z2 32 z2, .slice Z3 32 z3, .slice Z4 32 z4, .slice Z5 32 z5, .slice Z6 32 z6] 28)
  have r0 := Row7.new w7 (.slice Z0 32 z0) (.slice Z1 32 z1) (.slice Z2 32 z2) (.slice Z3 32 z3) (.slice Z4 32 z4) (.slice Z5 32 z5) (.slice Z6 32 z6)
  obtain ⟨w8, hw8⟩ : ∃ W, w7.alloc (.cells #[.slice Z0 32 z0, .slice Z1 32 z1, .slice Z2 32 z2, .slice Z3 32 z3, .slice Z4 32 z4, .slice Z5 32 z5, .slice Z6 32 z6] 28) = W := ⟨_, rfl⟩
  obtain ⟨g2, hg2⟩ : ∃ g, w7.heap.size = g := ⟨_, rfl⟩
  rw [hw8] at b0 r0
  rw [hg2] at r0
  have B8 := Lib.hid (B7.out.trans (b0.mono B7.out.size)); have Q8 := Lib.hid r0; have LQ := Lib.hid r0.lt
  have R8 := Lib.hid (R7.out.below b0 L7.out); have E8 := Lib.hid (E7.out.below b0); have F8 := Lib.hid (F7.out.below b0)
  have L8 := Lib.hid R8.out.lt
  obtain ⟨s0, s1, s2, s3, s4, s5, s6⟩ := R8.out.cs
  obtain ⟨t0, t1, t2, t3, t4, t5, t6⟩ := Q8.out.cs
  clear b0 r0 B7 R7 E7 F7 L7
  go_wp2_with fail
  try rw [hw8]
  try rw [hg2]
  clear hw8 hg2
  refine (same_true ⟨P0, 32, u0, P1, 32, u1, P2, 32, u2, P3, 32, u3, P4, 32, u4, P5, 32, u5, P6, 32, u6⟩ ⟨Z0, 32, z0, Z1, 32, z1, Z2, 32, z2, Z3, 32, z3, Z4, 32, z4, Z5, 32, z5, Z6, 32, z6⟩ (ep j x) w8 E8.out F8.out).mono ?_
  rintro e' w9 ⟨rfl, hb0⟩
  have hb := hb0.drew
  clear s0 s1 s2 s3 s4 s5 s6 t0 t1 t2 t3 t4 t5 t6
  have HWR : Hid (IntKind.i64.wrap (nn : Int) = (nn : Int)) := Lib.hid (by rw [IntKind.wrap_i64]; omega)
  have HBd : Hid (Below w.heap.size w w9.drew) := Lib.hid (B8.out.trans (hb.mono B8.out.size))
  have HTd : Hid (Tabs w9.drew) := Lib.hid (HT.out.at HBd.out)
  have HXd : Hid (Txt Any w9.drew C n3 c3 x) := Lib.hid (HX.out.below HBd.out)
  have HR1 : Hid (Row7 w9.drew g1 (.slice P0 32 u0) (.slice P1 32 u1) (.slice P2 32 u2) (.slice P3 32 u3) (.slice P4 32 u4) (.slice P5 32 u5) (.slice P6 32 u6)) := Lib.hid (R8.out.below hb L8.out)
  have HR2 : Hid (Row7 w9.drew g2 (.slice Z0 32 z0) (.slice Z1 32 z1) (.slice Z2 32 z2) (.slice Z3 32 z3) (.slice Z4 32 z4) (.slice Z5 32 z5) (.slice Z6 32 z6)) := Lib.hid (Q8.out.below hb LQ.out)
  have HL1 : Hid (g1 < w9.drew.heap.size) := Lib.hid (Nat.lt_of_lt_of_le L8.out hb.size)
  have HL2 : Hid (g2 < w9.drew.heap.size) := Lib.hid (Nat.lt_of_lt_of_le LQ.out hb.size)
  obtain ⟨K3, hK3⟩ : ∃ k, (ep j x).exp = k := ⟨_, rfl⟩
  have y1 := (E8.out.below hb).t3; have y2 := (F8.out.below hb).t3
  dsimp only at y1 y2
  rw [hK3] at y1 y2
  have Y1 : Hid (Txt Any w9.drew P3 32 u3 K3) := Lib.hid y1
  have Y2 : Hid (Txt Any w9.drew Z3 32 z3 K3) := Lib.hid y2
  obtain ⟨V, hV⟩ : ∃ v, xp K3 l x nn = v := ⟨_, rfl⟩
  have HEX := Lib.hid hV
  have HXN : Hid (V.length = nn) := Lib.hid (by rw [← hV]; exact xp_len (by omega) (by omega))
  obtain ⟨S, hS⟩ : ∃ v, Wr.txt V = v := ⟨_, rfl⟩
  have HS := Lib.hid hS
  obtain ⟨s0, s1, s2, s3, s4, s5, s6⟩ := R8.out.below hb0 L8.out |>.cs
  clear hb hb0 y1 y2 hK3 hV hS R8 Q8 E8 F8 L8 LQ B8
  go_wp2_with fail
  clear s0 s1 s2 s3 s4 s5 s6
  try simp only [Act.put]
  refine Wr.region_calm ?_
  refine wp_region_any (by kernel_rfl) ?_
  change wpAny _ _ _ _ _ _ _ (World.drew w9)
  generalize World.drew w9 = wd at *
  have HSwd : Hid (Below wd.heap.size wd wd) := Lib.hid (Below.refl _ _)
  refine wpAny_of_held (S := fun W => Below wd.heap.size wd W) _ _ _ _ ?_
  refine wpAnyH_take (i := 0) (v := ?ve1) rfl (by kernel_rfl) (by kernel_rfl) (by kernel_rfl) (fun _ _ _ h => h) (Or.inl ⟨by rfl, ?ye1⟩) HSwd.out ?re1
  case ye1 => (intro w' hSw; clear hSw; go_simp; try with_reducible rfl)
  simp only [List.getElem_toArray, List.getElem_cons_succ, List.getElem_cons_zero, Act.put, List.setIfInBounds_toArray, List.set_cons_zero, List.set_cons_succ]
  refine wpAnyH_take (i := 1) (v := ?ve2) rfl (by kernel_rfl) (by kernel_rfl) (by kernel_rfl) (fun _ _ _ h => h) (Or.inl ⟨by rfl, ?ye2⟩) HSwd.out ?re2
  case ye2 => (intro w' hSw; clear hSw; go_simp; try with_reducible rfl)
  simp only [List.getElem_toArray, List.getElem_cons_succ, List.getElem_cons_zero, Act.put, List.setIfInBounds_toArray, List.set_cons_zero, List.set_cons_succ]
  refine wpAnyH_take (i := 2) (v := ?ve3) rfl (by kernel_rfl) (by kernel_rfl) (by kernel_rfl) (fun _ _ _ h => h) (Or.inl ⟨by rfl, ?ye3⟩) HSwd.out ?re3
  case ye3 => (intro w' hSw; have hq_wd : Below wd.heap.size wd w' := hSw; have hq := hq_wd; obtain ⟨s0, s1, s2, s3, s4, s5, s6⟩ := (HR1.out.below hq_wd HL1.out).cs; obtain ⟨t0, t1, t2, t3, t4, t5, t6⟩ := (HR2.out.below hq_wd HL2.out).cs; clear hSw; try clear hq hq_wd; go_simp; try with_reducible rfl)
  simp only [List.getElem_toArray, List.getElem_cons_succ, List.getElem_cons_zero, Act.put, List.setIfInBounds_toArray, List.set_cons_zero, List.set_cons_succ]
  refine wpAnyH_take (i := 3) (v := ?ve4) rfl (by kernel_rfl) (by kernel_rfl) (by kernel_rfl) (fun _ _ _ h => h) (Or.inl ⟨by rfl, ?ye4⟩) HSwd.out ?re4
  case ye4 => (intro w' hSw; clear hSw; go_simp; try with_reducible rfl)
  simp only [List.getElem_toArray, List.getElem_cons_succ, List.getElem_cons_zero, Act.put, List.setIfInBounds_toArray, List.set_cons_zero, List.set_cons_succ]
  refine wpAnyH_take (i := 4) (v := ?ve5) rfl (by kernel_rfl) (by kernel_rfl) (by kernel_rfl) (fun _ _ _ h => h) (Or.inl ⟨by rfl, ?ye5⟩) HSwd.out ?re5
  case ye5 => (intro w' hSw; clear hSw; go_simp; try with_reducible rfl)
  simp only [List.getElem_toArray, List.getElem_cons_succ, List.getElem_cons_zero, Act.put, List.setIfInBounds_toArray, List.set_cons_zero, List.set_cons_succ]
  refine wpAnyH_take (i := 5) (v := ?ve6) rfl (by kernel_rfl) (by kernel_rfl) (by kernel_rfl) (fun _ _ _ h => h) (Or.inl ⟨by rfl, ?ye6⟩) HSwd.out ?re6
  case ye6 => (intro w' hSw; clear hSw; go_simp; try with_reducible rfl)
  simp only [List.getElem_toArray, List.getElem_cons_succ, List.getElem_cons_zero, Act.put, List.setIfInBounds_toArray, List.set_cons_zero, List.set_cons_succ]
  refine wpAnyH_take (i := 6) (v := ?ve7) rfl (by kernel_rfl) (by kernel_rfl) (by kernel_rfl) (fun _ _ _ h => h) (Or.inl ⟨by rfl, ?ye7⟩) HSwd.out ?re7
  case ye7 => (intro w' hSw; have hq_wd : Below wd.heap.size wd w' := hSw; have hq := hq_wd; have cw := HWR.out; clear hSw; try clear hq hq_wd; go_simp; try with_reducible rfl)
  simp only [List.getElem_toArray, List.getElem_cons_succ, List.getElem_cons_zero, Act.put, List.setIfInBounds_toArray, List.set_cons_zero, List.set_cons_succ]
  refine wpAnyH_take (i := 9) (v := ?ve8) rfl (by kernel_rfl) (by kernel_rfl) (by kernel_rfl) (fun _ _ _ h => h) (Or.inl ⟨by rfl, ?ye8⟩) HSwd.out ?re8
  case ye8 => (intro w' hSw; clear hSw; go_simp; try with_reducible rfl)
  simp only [List.getElem_toArray, List.getElem_cons_succ, List.getElem_cons_zero, Act.put, List.setIfInBounds_toArray, List.set_cons_zero, List.set_cons_succ]
  refine wpAnyH_take (i := 10) (v := ?ve9) rfl (by kernel_rfl) (by kernel_rfl) (by kernel_rfl) (fun _ _ _ h => h) (Or.inl ⟨by rfl, ?ye9⟩) HSwd.out ?re9
  case ye9 => (intro w' hSw; have hq_wd : Below wd.heap.size wd w' := hSw; have hq := hq_wd; have cw := HWR.out; clear hSw; try clear hq hq_wd; go_simp; try with_reducible rfl)
  simp only [List.getElem_toArray, List.getElem_cons_succ, List.getElem_cons_zero, Act.put, List.setIfInBounds_toArray, List.set_cons_zero, List.set_cons_succ]
  refine wpAnyH_ready (rs := [7]) (by kernel_rfl) (by simp) ?_
  refine AllReadyH.cons rfl (fun K' hK => ?_) AllReadyH.nil
  simp only [List.getElem_toArray, List.getElem_cons_succ, List.getElem_cons_zero]
  go_simp
  refine (export_any ⟨P0, 32, u0, P1, 32, u1, P2, 32, u2, P3, 32, u3, P4, 32, u4, P5, 32, u5, P6, 32, u6⟩ C K3 l x n3 c3 nn _ (HTd.out) Y1.out HXd.out (by show 32 ≤ 1000000; omega) (by omega)).mono ?_
  rintro e' v1 ⟨X1, m1, d1, rfl, hX, hb⟩
  have HU_wd_v1 := Lib.hid hb
  rw [HEX.out] at hX
  have HX1 := Lib.hid hX.any
  obtain rfl : nn = m1 := by rw [← hX.2.1]; exact HXN.out.symm
  clear hX
  refine hK.out _ _ HU_wd_v1.out (fun _ => ?_)
  clear hK
  try simp only [List.getElem_toArray, List.getElem_cons_succ, List.getElem_cons_zero, Act.put, List.setIfInBounds_toArray, List.set_cons_zero, List.set_cons_succ]
  have HSv1 : Hid (Below v1.heap.size v1 v1) := Lib.hid (Below.refl _ _)
  refine Sha.wpAnyH_more (S' := fun W => Below v1.heap.size v1 W) (fun W h => HU_wd_v1.out.trans (h.mono HU_wd_v1.out.size)) _ _ _ _ ?_
  refine wpAnyH_take (i := 8) (v := ?ve10) rfl (by kernel_rfl) (by kernel_rfl) (by kernel_rfl) (fun _ _ _ h => h) (Or.inl ⟨by rfl, ?ye10⟩) HSv1.out ?re10
  case ye10 => (intro w' hSw; clear hSw; go_simp; try with_reducible rfl)
  simp only [List.getElem_toArray, List.getElem_cons_succ, List.getElem_cons_zero, Act.put, List.setIfInBounds_toArray, List.set_cons_zero, List.set_cons_succ]
  refine wpAnyH_take (i := 11) (v := ?ve11) rfl (by kernel_rfl) (by kernel_rfl) (by kernel_rfl) (fun _ _ _ h => h) (Or.inl ⟨by rfl, ?ye11⟩) HSv1.out ?re11
  case ye11 => (intro w' hSw; clear hSw; go_simp; try with_reducible rfl)
  simp only [List.getElem_toArray, List.getElem_cons_succ, List.getElem_cons_zero, Act.put, List.setIfInBounds_toArray, List.set_cons_zero, List.set_cons_succ]
  refine wpAnyH_take (i := 12) (v := ?ve12) rfl (by kernel_rfl) (by kernel_rfl) (by kernel_rfl) (fun _ _ _ h => h) (Or.inl ⟨by rfl, ?ye12⟩) HSv1.out ?re12
  case ye12 => (intro w' hSw; clear hSw; go_simp; try with_reducible rfl)
  simp only [List.getElem_toArray, List.getElem_cons_succ, List.getElem_cons_zero, Act.put, List.setIfInBounds_toArray, List.set_cons_zero, List.set_cons_succ]
  refine wpAnyH_take (i := 13) (v := ?ve13) rfl (by kernel_rfl) (by kernel_rfl) (by kernel_rfl) (fun _ _ _ h => h) (Or.inl ⟨by rfl, ?ye13⟩) HSv1.out ?re13
  case ye13 => (intro w' hSw; clear hSw; go_simp; try with_reducible rfl)
  simp only [List.getElem_toArray, List.getElem_cons_succ, List.getElem_cons_zero, Act.put, List.setIfInBounds_toArray, List.set_cons_zero, List.set_cons_succ]
  refine wpAnyH_take (i := 14) (v := ?ve14) rfl (by kernel_rfl) (by kernel_rfl) (by kernel_rfl) (fun _ _ _ h => h) (Or.inl ⟨by rfl, ?ye14⟩) HSv1.out ?re14
  case ye14 => (intro w' hSw; have hq_v1 : Below v1.heap.size v1 w' := hSw; have hq_wd : Below wd.heap.size wd w' := HU_wd_v1.out.trans (hSw.mono HU_wd_v1.out.size); have hq := hq_wd; obtain ⟨s0, s1, s2, s3, s4, s5, s6⟩ := (HR1.out.below hq_wd HL1.out).cs; obtain ⟨t0, t1, t2, t3, t4, t5, t6⟩ := (HR2.out.below hq_wd HL2.out).cs; clear hSw; try clear hq hq_wd hq_v1; go_simp; try with_reducible rfl)
  simp only [List.getElem_toArray, List.getElem_cons_succ, List.getElem_cons_zero, Act.put, List.setIfInBounds_toArray, List.set_cons_zero, List.set_cons_succ]
  refine wpAnyH_take (i := 15) (v := ?ve15) rfl (by kernel_rfl) (by kernel_rfl) (by kernel_rfl) (fun _ _ _ h => h) (Or.inl ⟨by rfl, ?ye15⟩) HSv1.out ?re15
  case ye15 => (intro w' hSw; clear hSw; go_simp; try with_reducible rfl)
  simp only [List.getElem_toArray, List.getElem_cons_succ, List.getElem_cons_zero, Act.put, List.setIfInBounds_toArray, List.set_cons_zero, List.set_cons_succ]
  refine wpAnyH_take (i := 16) (v := ?ve16) rfl (by kernel_rfl) (by kernel_rfl) (by kernel_rfl) (fun _ _ _ h => h) (Or.inl ⟨by rfl, ?ye16⟩) HSv1.out ?re16
  case ye16 => (intro w' hSw; clear hSw; go_simp; try with_reducible rfl)
  simp only [List.getElem_toArray, List.getElem_cons_succ, List.getElem_cons_zero, Act.put, List.setIfInBounds_toArray, List.set_cons_zero, List.set_cons_succ]
  refine wpAnyH_take (i := 17) (v := ?ve17) rfl (by kernel_rfl) (by kernel_rfl) (by kernel_rfl) (fun _ _ _ h => h) (Or.inl ⟨by rfl, ?ye17⟩) HSv1.out ?re17
  case ye17 => (intro w' hSw; clear hSw; go_simp; try with_reducible rfl)
  simp only [List.getElem_toArray, List.getElem_cons_succ, List.getElem_cons_zero, Act.put, List.setIfInBounds_toArray, List.set_cons_zero, List.set_cons_succ]
  refine wpAnyH_take (i := 18) (v := ?ve18) rfl (by kernel_rfl) (by kernel_rfl) (by kernel_rfl) (fun _ _ _ h => h) (Or.inl ⟨by rfl, ?ye18⟩) HSv1.out ?re18
  case ye18 => (intro w' hSw; have hq_v1 : Below v1.heap.size v1 w' := hSw; have hq_wd : Below wd.heap.size wd w' := HU_wd_v1.out.trans (hSw.mono HU_wd_v1.out.size); have hq := hq_wd; have cw := HWR.out; clear hSw; try clear hq hq_wd hq_v1; go_simp; try with_reducible rfl)
  simp only [List.getElem_toArray, List.getElem_cons_succ, List.getElem_cons_zero, Act.put, List.setIfInBounds_toArray, List.set_cons_zero, List.set_cons_succ]
  refine wpAnyH_take (i := 21) (v := ?ve19) rfl (by kernel_rfl) (by kernel_rfl) (by kernel_rfl) (fun _ _ _ h => h) (Or.inl ⟨by rfl, ?ye19⟩) HSv1.out ?re19
  case ye19 => (intro w' hSw; have hq_v1 : Below v1.heap.size v1 w' := hSw; have hq_wd : Below wd.heap.size wd w' := HU_wd_v1.out.trans (hSw.mono HU_wd_v1.out.size); have hq := hq_wd; obtain ⟨s0, s1, s2, s3, s4, s5, s6⟩ := (HR1.out.below hq_wd HL1.out).cs; obtain ⟨t0, t1, t2, t3, t4, t5, t6⟩ := (HR2.out.below hq_wd HL2.out).cs; clear hSw; try clear hq hq_wd hq_v1; go_simp; try with_reducible rfl)
  simp only [List.getElem_toArray, List.getElem_cons_succ, List.getElem_cons_zero, Act.put, List.setIfInBounds_toArray, List.set_cons_zero, List.set_cons_succ]
  refine wpAnyH_take (i := 22) (v := ?ve20) rfl (by kernel_rfl) (by kernel_rfl) (by kernel_rfl) (fun _ _ _ h => h) (Or.inl ⟨by rfl, ?ye20⟩) HSv1.out ?re20
  case ye20 => (intro w' hSw; clear hSw; go_simp; try with_reducible rfl)
  simp only [List.getElem_toArray, List.getElem_cons_succ, List.getElem_cons_zero, Act.put, List.setIfInBounds_toArray, List.set_cons_zero, List.set_cons_succ]
  refine wpAnyH_take (i := 23) (v := ?ve21) rfl (by kernel_rfl) (by kernel_rfl) (by kernel_rfl) (fun _ _ _ h => h) (Or.inl ⟨by rfl, ?ye21⟩) HSv1.out ?re21
  case ye21 => (intro w' hSw; clear hSw; go_simp; try with_reducible rfl)
  simp only [List.getElem_toArray, List.getElem_cons_succ, List.getElem_cons_zero, Act.put, List.setIfInBounds_toArray, List.set_cons_zero, List.set_cons_succ]
  refine wpAnyH_take (i := 24) (v := ?ve22) rfl (by kernel_rfl) (by kernel_rfl) (by kernel_rfl) (fun _ _ _ h => h) (Or.inl ⟨by rfl, ?ye22⟩) HSv1.out ?re22
  case ye22 => (intro w' hSw; clear hSw; go_simp; try with_reducible rfl)
  simp only [List.getElem_toArray, List.getElem_cons_succ, List.getElem_cons_zero, Act.put, List.setIfInBounds_toArray, List.set_cons_zero, List.set_cons_succ]
  refine wpAnyH_take (i := 25) (v := ?ve23) rfl (by kernel_rfl) (by kernel_rfl) (by kernel_rfl) (fun _ _ _ h => h) (Or.inl ⟨by rfl, ?ye23⟩) HSv1.out ?re23
  case ye23 => (intro w' hSw; have hq_v1 : Below v1.heap.size v1 w' := hSw; have hq_wd : Below wd.heap.size wd w' := HU_wd_v1.out.trans (hSw.mono HU_wd_v1.out.size); have hq := hq_wd; have cw := HWR.out; clear hSw; try clear hq hq_wd hq_v1; go_simp; try with_reducible rfl)
  simp only [List.getElem_toArray, List.getElem_cons_succ, List.getElem_cons_zero, Act.put, List.setIfInBounds_toArray, List.set_cons_zero, List.set_cons_succ]
  refine wpAnyH_ready (rs := [19]) (by kernel_rfl) (by simp) ?_
  refine AllReadyH.cons rfl (fun K' hK => ?_) AllReadyH.nil
  simp only [List.getElem_toArray, List.getElem_cons_succ, List.getElem_cons_zero]
  go_simp
  refine (export_any ⟨P0, 32, u0, P1, 32, u1, P2, 32, u2, P3, 32, u3, P4, 32, u4, P5, 32, u5, P6, 32, u6⟩ C K3 l x n3 c3 nn _ (HTd.out.at HU_wd_v1.out) (Y1.out.below HU_wd_v1.out) (HXd.out.below HU_wd_v1.out) (by show 32 ≤ 1000000; omega) (by omega)).mono ?_
  rintro e' v2 ⟨X2, m2, d2, rfl, hX, hb⟩
  have HU_v1_v2 := Lib.hid hb
  rw [HEX.out] at hX
  have HX2 := Lib.hid hX.any
  obtain rfl : nn = m2 := by rw [← hX.2.1]; exact HXN.out.symm
  clear hX
  have HU_wd_v2 := Lib.hid (HU_wd_v1.out.trans (HU_v1_v2.out.mono HU_wd_v1.out.size))
  refine hK.out _ _ HU_v1_v2.out (fun _ => ?_)
  clear hK
  try simp only [List.getElem_toArray, List.getElem_cons_succ, List.getElem_cons_zero, Act.put, List.setIfInBounds_toArray, List.set_cons_zero, List.set_cons_succ]
  have HSv2 : Hid (Below v2.heap.size v2 v2) := Lib.hid (Below.refl _ _)
  refine Sha.wpAnyH_more (S' := fun W => Below v2.heap.size v2 W) (fun W h => HU_v1_v2.out.trans (h.mono HU_v1_v2.out.size)) _ _ _ _ ?_
  refine wpAnyH_take (i := 20) (v := ?ve24) rfl (by kernel_rfl) (by kernel_rfl) (by kernel_rfl) (fun _ _ _ h => h) (Or.inl ⟨by rfl, ?ye24⟩) HSv2.out ?re24
  case ye24 => (intro w' hSw; have hq_v2 : Below v2.heap.size v2 w' := hSw; have hq_v1 : Below v1.heap.size v1 w' := HU_v1_v2.out.trans (hSw.mono HU_v1_v2.out.size); have hq_wd : Below wd.heap.size wd w' := HU_wd_v2.out.trans (hSw.mono HU_wd_v2.out.size); have hq := hq_wd; have cc := (HX2.out.below hq_v2).conv; rw [HS.out] at cc; clear hSw; try clear hq hq_wd hq_v1 hq_v2; go_simp; try with_reducible rfl)
  simp only [List.getElem_toArray, List.getElem_cons_succ, List.getElem_cons_zero, Act.put, List.setIfInBounds_toArray, List.set_cons_zero, List.set_cons_succ]
  refine wpAnyH_ready (rs := [26]) (by kernel_rfl) (by simp) ?_
  refine AllReadyH.cons rfl (fun K' hK => ?_) AllReadyH.nil
  simp only [List.getElem_toArray, List.getElem_cons_succ, List.getElem_cons_zero]
  go_simp
  refine (export_any ⟨Z0, 32, z0, Z1, 32, z1, Z2, 32, z2, Z3, 32, z3, Z4, 32, z4, Z5, 32, z5, Z6, 32, z6⟩ C K3 l x n3 c3 nn _ (HTd.out.at HU_wd_v2.out) (Y2.out.below HU_wd_v2.out) (HXd.out.below HU_wd_v2.out) (by show 32 ≤ 1000000; omega) (by omega)).mono ?_
  rintro e' v3 ⟨X3, m3, d3, rfl, hX, hb⟩
  have HU_v2_v3 := Lib.hid hb
  rw [HEX.out] at hX
  have HX3 := Lib.hid hX.any
  obtain rfl : nn = m3 := by rw [← hX.2.1]; exact HXN.out.symm
  clear hX
  have HU_v1_v3 := Lib.hid (HU_v1_v2.out.trans (HU_v2_v3.out.mono HU_v1_v2.out.size))
  have HU_wd_v3 := Lib.hid (HU_wd_v2.out.trans (HU_v2_v3.out.mono HU_wd_v2.out.size))
  refine hK.out _ _ HU_v2_v3.out (fun _ => ?_)
  clear hK
  try simp only [List.getElem_toArray, List.getElem_cons_succ, List.getElem_cons_zero, Act.put, List.setIfInBounds_toArray, List.set_cons_zero, List.set_cons_succ]
  have HSv3 : Hid (Below v3.heap.size v3 v3) := Lib.hid (Below.refl _ _)
  refine Sha.wpAnyH_more (S' := fun W => Below v3.heap.size v3 W) (fun W h => HU_v2_v3.out.trans (h.mono HU_v2_v3.out.size)) _ _ _ _ ?_
  refine wpAnyH_take (i := 27) (v := ?ve25) rfl (by kernel_rfl) (by kernel_rfl) (by kernel_rfl) (fun _ _ _ h => h) (Or.inl ⟨by rfl, ?ye25⟩) HSv3.out ?re25
  case ye25 => (intro w' hSw; have hq_v3 : Below v3.heap.size v3 w' := hSw; have hq_v2 : Below v2.heap.size v2 w' := HU_v2_v3.out.trans (hSw.mono HU_v2_v3.out.size); have hq_v1 : Below v1.heap.size v1 w' := HU_v1_v3.out.trans (hSw.mono HU_v1_v3.out.size); have hq_wd : Below wd.heap.size wd w' := HU_wd_v3.out.trans (hSw.mono HU_wd_v3.out.size); have hq := hq_wd; have cc := (HX3.out.below hq_v3).conv; rw [HS.out] at cc; clear hSw; try clear hq hq_wd hq_v1 hq_v2 hq_v3; go_simp; try with_reducible rfl)
  simp only [List.getElem_toArray, List.getElem_cons_succ, List.getElem_cons_zero, Act.put, List.setIfInBounds_toArray, List.set_cons_zero, List.set_cons_succ]
  refine wpAnyH_take (i := 28) (v := ?ve26) rfl (by kernel_rfl) (by kernel_rfl) (by kernel_rfl) (fun _ _ _ h => h) (Or.inl ⟨by rfl, ?ye26⟩) HSv3.out ?re26
  case ye26 => (intro w' hSw; clear hSw; go_simp; try with_reducible rfl)
  simp only [List.getElem_toArray, List.getElem_cons_succ, List.getElem_cons_zero, Act.put, List.setIfInBounds_toArray, List.set_cons_zero, List.set_cons_succ]
  refine wpAnyH_take (i := 29) (v := ?ve27) rfl (by kernel_rfl) (by kernel_rfl) (by kernel_rfl) (fun _ _ _ h => h) (Or.inl ⟨by rfl, ?ye27⟩) HSv3.out ?re27
  case ye27 => (intro w' hSw; clear hSw; go_simp; try with_reducible rfl)
  simp only [List.getElem_toArray, List.getElem_cons_succ, List.getElem_cons_zero, Act.put, List.setIfInBounds_toArray, List.set_cons_zero, List.set_cons_succ]
  refine wpAnyH_take (i := 30) (v := ?ve28) rfl (by kernel_rfl) (by kernel_rfl) (by kernel_rfl) (fun _ _ _ h => h) (Or.inl ⟨by rfl, ?ye28⟩) HSv3.out ?re28
  case ye28 => (intro w' hSw; clear hSw; go_simp; try with_reducible rfl)
  simp only [List.getElem_toArray, List.getElem_cons_succ, List.getElem_cons_zero, Act.put, List.setIfInBounds_toArray, List.set_cons_zero, List.set_cons_succ]
  refine wpAnyH_done (by kernel_rfl) ?_ _
  change Exit.then _ _ Exit.normal _ _
  go_wp2
  go_ret
  exact ⟨rfl, HBd.out.trans (HU_wd_v3.out.mono HBd.out.size)⟩
end Go.Proofs.YtikafijdfgkgkaaDoor.Sc
