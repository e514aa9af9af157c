/- SchedSums: the walk. Written by tools/mk_scsums.py. -/
import Derived.Test.YtikafijdfgkgkaaDoorScWalkD
namespace Go.Proofs.YtikafijdfgkgkaaDoor.Sc
set_option linter.all false
open Go.RowKit
open Wr (Txt TxtL Any New bcells gt)

set_option maxHeartbeats 8000000 in
set_option maxRecDepth 100000 in
theorem schedSums_walk (A : Option Addr) (a : List Nat) (n1 c1 : Nat) (B : Option Addr) (b : List Nat) (n2 c2 : Nat) (q : Q7) (key : List Nat) (l : ByteArray) (n : Int) (w : World) (hT : Tabs w) (hA : Txt Any w A n1 c1 a) (hB : Txt Any w B n2 c2 b) (hK : Txt Any w q.A3 q.n3 q.c3 key) (hn : (Lit.int .i64 n).wf = true) :
    Calls Tryd.prog 4 #[.slice A n1 c1, .slice B n2 c2, .agg #[.slice q.A0 q.n0 q.c0, .slice q.A1 q.n1 q.c1, .slice q.A2 q.n2 q.c2, .slice q.A3 q.n3 q.c3, .slice q.A4 q.n4 q.c4, .slice q.A5 q.n5 q.c5, .slice q.A6 q.n6 q.c6], .string l, .int .i64 n] w fun e w' => e = .returned (.bool true) ∧ Below w.heap.size w w' := by
  have b0 := (Below.refl w.heap.size w).alloc (Nat.le_refl _) (.cells #[.slice q.A0 q.n0 q.c0, .slice q.A1 q.n1 q.c1, .slice q.A2 q.n2 q.c2, .slice q.A3 q.n3 q.c3, .slice q.A4 q.n4 q.c4, .slice q.A5 q.n5 q.c5, .slice q.A6 q.n6 q.c6] 28)
  have r0 := Row7.new w (.slice q.A0 q.n0 q.c0) (.slice q.A1 q.n1 q.c1) (.slice q.A2 q.n2 q.c2) (.slice q.A3 q.n3 q.c3) (.slice q.A4 q.n4 q.c4) (.slice q.A5 q.n5 q.c5) (.slice q.A6 q.n6 q.c6)
  obtain ⟨w0, hw0⟩ : ∃ W, w.alloc (.cells #[.slice q.A0 q.n0 q.c0, .slice q.A1 q.n1 q.c1, .slice q.A2 q.n2 q.c2, .slice q.A3 q.n3 q.c3, .slice q.A4 q.n4 q.c4, .slice q.A5 q.n5 q.c5, .slice q.A6 q.n6 q.c6] 28) = W := ⟨_, rfl⟩
  rw [hw0] at b0 r0
  have B0 := Lib.hid b0
  have HT := Lib.hid (hT.at b0); have HA := Lib.hid (hA.below b0); have HB := Lib.hid (hB.below b0); have HK := Lib.hid (hK.below b0); have HR := Lib.hid r0; have HL := Lib.hid r0.lt
  obtain ⟨S1, hS1⟩ : ∃ S, sm a b = S := ⟨_, rfl⟩
  obtain ⟨S2, hS2⟩ : ∃ S, xp key l a n = S := ⟨_, rfl⟩
  have HE1 := Lib.hid hS1; have HE2 := Lib.hid hS2
  obtain ⟨T1, hT1⟩ : ∃ S, Wr.txt S1 = S := ⟨_, rfl⟩
  obtain ⟨T2, hT2⟩ : ∃ S, Wr.txt S2 = S := ⟨_, rfl⟩
  have HS1 := Lib.hid hT1; have HS2 := Lib.hid hT2
  clear hT hA hB hK b0 r0 hS1 hS2 hT1 hT2
  go_enter Tryd.func4, Tryd.ntmps4
  go_wp2_with fail
  try rw [hw0]
  clear hw0
  refine (head_any _ HT.out).mono ?_
  rintro e' w1 ⟨rfl, hb⟩
  have B1 := Lib.hid (B0.out.trans (hb.mono B0.out.size)); have HBd0 := Lib.hid hb
  obtain ⟨s0, s1, s2, s3, s4, s5, s6⟩ := (HR.out.below hb HL.out).cs
  clear hb
  by_cases h1 : 20000 < n1
  case pos =>
    go_wp2_with fail
    refine (great_yes A n1 c1 _ h1).mono ?_
    rintro e' w2 ⟨rfl, rfl⟩
    go_wp2
    go_ret
    exact ⟨rfl, B1.out⟩
  go_wp2_with fail
  refine (great_no A n1 c1 _ (by omega)).mono ?_
  rintro e' w2 ⟨rfl, rfl⟩
  by_cases h2 : 20000 < n2
  case pos =>
    go_wp2_with fail
    refine (great_yes B n2 c2 _ h2).mono ?_
    rintro e' w2 ⟨rfl, rfl⟩
    go_wp2
    go_ret
    exact ⟨rfl, B1.out⟩
  go_wp2_with fail
  refine (great_no B n2 c2 _ (by omega)).mono ?_
  rintro e' w2 ⟨rfl, rfl⟩
  by_cases h3 : 20000 < q.n3
  case pos =>
    go_wp2_with fail
    refine (great_yes q.A3 q.n3 q.c3 _ h3).mono ?_
    rintro e' w2 ⟨rfl, rfl⟩
    go_wp2
    go_ret
    exact ⟨rfl, B1.out⟩
  go_wp2_with fail
  refine (great_no q.A3 q.n3 q.c3 _ (by omega)).mono ?_
  rintro e' w2 ⟨rfl, rfl⟩
  by_cases h4 : 1000 < l.size
  case pos =>
    have y4 : (1000 : Int) < (l.size : Int) := by omega
    go_wp2
    go_ret
    exact ⟨rfl, B1.out⟩
  have y4 : ¬ (1000 : Int) < (l.size : Int) := by omega
  by_cases h5 : 300 < n ∧ n ≤ 8160
  case pos =>
    obtain ⟨y5, y6⟩ := h5
    go_wp2
    go_ret
    exact ⟨rfl, B1.out⟩
  by_cases h6 : 300 < n
  case pos =>
    have y6 : ¬ n ≤ 8160 := by omega
    go_wp2_with fail
    have HBd0d : Hid (Below w0.heap.size w0 w1.drew) := Lib.hid HBd0.out.drew
    have HTd : Hid (Tabs w1.drew) := Lib.hid (HT.out.at HBd0d.out)
    have HAd : Hid (Txt Any w1.drew A n1 c1 a) := Lib.hid (HA.out.below HBd0d.out)
    have HBd : Hid (Txt Any w1.drew B n2 c2 b) := Lib.hid (HB.out.below HBd0d.out)
    have HKd : Hid (Txt Any w1.drew q.A3 q.n3 q.c3 key) := Lib.hid (HK.out.below HBd0d.out)
    have HRd : Hid (Row7 w1.drew w.heap.size (.slice q.A0 q.n0 q.c0) (.slice q.A1 q.n1 q.c1) (.slice q.A2 q.n2 q.c2) (.slice q.A3 q.n3 q.c3) (.slice q.A4 q.n4 q.c4) (.slice q.A5 q.n5 q.c5) (.slice q.A6 q.n6 q.c6)) := Lib.hid (HR.out.below HBd0d.out HL.out)
    have HRL : Hid (w.heap.size < w1.drew.heap.size) := Lib.hid (Nat.lt_of_lt_of_le HL.out HBd0d.out.size)
    have HBf : Hid (Below w.heap.size w w1.drew) := Lib.hid B1.out.drew
    clear s0 s1 s2 s3 s4 s5 s6 HBd0
    try simp only [Act.put]
    refine Wr.region_calm ?_
    refine wp_region_any (by kernel_rfl) ?_
    change wpAny _ _ _ _ _ _ _ (World.drew w1)
    generalize World.drew w1 = wd at *
    have HSwd : Hid (Below wd.heap.size wd wd) := Lib.hid (Below.refl _ _)
    refine wpAny_of_held (S := fun W => Below wd.heap.size wd W) _ _ _ _ ?_
    refine wpAnyH_take (i := 0) (v := ?ve1) rfl (by kernel_rfl) (by kernel_rfl) (by kernel_rfl) (fun _ _ _ h => h) (Or.inl ⟨by rfl, ?ye1⟩) HSwd.out ?re1
    case ye1 => (intro w' hSw; clear hSw; go_simp; try with_reducible rfl)
    simp only [List.getElem_toArray, List.getElem_cons_succ, List.getElem_cons_zero, Act.put, List.setIfInBounds_toArray, List.set_cons_zero, List.set_cons_succ]
    refine wpAnyH_take (i := 1) (v := ?ve2) rfl (by kernel_rfl) (by kernel_rfl) (by kernel_rfl) (fun _ _ _ h => h) (Or.inl ⟨by rfl, ?ye2⟩) HSwd.out ?re2
    case ye2 => (intro w' hSw; clear hSw; go_simp; try with_reducible rfl)
    simp only [List.getElem_toArray, List.getElem_cons_succ, List.getElem_cons_zero, Act.put, List.setIfInBounds_toArray, List.set_cons_zero, List.set_cons_succ]
    refine wpAnyH_take (i := 2) (v := ?ve3) rfl (by kernel_rfl) (by kernel_rfl) (by kernel_rfl) (fun _ _ _ h => h) (Or.inl ⟨by rfl, ?ye3⟩) HSwd.out ?re3
    case ye3 => (intro w' hSw; clear hSw; go_simp; try with_reducible rfl)
    simp only [List.getElem_toArray, List.getElem_cons_succ, List.getElem_cons_zero, Act.put, List.setIfInBounds_toArray, List.set_cons_zero, List.set_cons_succ]
    refine wpAnyH_take (i := 3) (v := ?ve4) rfl (by kernel_rfl) (by kernel_rfl) (by kernel_rfl) (fun _ _ _ h => h) (Or.inl ⟨by rfl, ?ye4⟩) HSwd.out ?re4
    case ye4 => (intro w' hSw; clear hSw; go_simp; try with_reducible rfl)
    simp only [List.getElem_toArray, List.getElem_cons_succ, List.getElem_cons_zero, Act.put, List.setIfInBounds_toArray, List.set_cons_zero, List.set_cons_succ]
    refine wpAnyH_take (i := 6) (v := ?ve5) rfl (by kernel_rfl) (by kernel_rfl) (by kernel_rfl) (fun _ _ _ h => h) (Or.inl ⟨by rfl, ?ye5⟩) HSwd.out ?re5
    case ye5 => (intro w' hSw; clear hSw; go_simp; try with_reducible rfl)
    simp only [List.getElem_toArray, List.getElem_cons_succ, List.getElem_cons_zero, Act.put, List.setIfInBounds_toArray, List.set_cons_zero, List.set_cons_succ]
    refine wpAnyH_take (i := 7) (v := ?ve6) rfl (by kernel_rfl) (by kernel_rfl) (by kernel_rfl) (fun _ _ _ h => h) (Or.inl ⟨by rfl, ?ye6⟩) HSwd.out ?re6
    case ye6 => (intro w' hSw; clear hSw; go_simp; try with_reducible rfl)
    simp only [List.getElem_toArray, List.getElem_cons_succ, List.getElem_cons_zero, Act.put, List.setIfInBounds_toArray, List.set_cons_zero, List.set_cons_succ]
    refine wpAnyH_ready (rs := [4]) (by kernel_rfl) (by simp) ?_
    refine AllReadyH.cons rfl (fun K' hK => ?_) AllReadyH.nil
    simp only [List.getElem_toArray, List.getElem_cons_succ, List.getElem_cons_zero]
    go_simp
    refine (confirmed_any A B a b n1 c1 n2 c2 _ HTd.out HAd.out HBd.out (by omega) (by omega)).mono ?_
    rintro e' u1 ⟨X1, m1, d1, rfl, hX, hb⟩
    have HU_wd_u1 := Lib.hid hb
    rw [HE1.out] at hX
    have HX1 := Lib.hid hX.any
    clear hX
    refine hK.out _ _ HU_wd_u1.out (fun _ => ?_)
    clear hK
    try simp only [List.getElem_toArray, List.getElem_cons_succ, List.getElem_cons_zero, Act.put, List.setIfInBounds_toArray, List.set_cons_zero, List.set_cons_succ]
    have HSu1 : Hid (Below u1.heap.size u1 u1) := Lib.hid (Below.refl _ _)
    refine Sha.wpAnyH_more (S' := fun W => Below u1.heap.size u1 W) (fun W h => HU_wd_u1.out.trans (h.mono HU_wd_u1.out.size)) _ _ _ _ ?_
    refine wpAnyH_take (i := 5) (v := ?ve7) rfl (by kernel_rfl) (by kernel_rfl) (by kernel_rfl) (fun _ _ _ h => h) (Or.inl ⟨by rfl, ?ye7⟩) HSu1.out ?re7
    case ye7 => (intro w' hSw; have hq_u1 : Below u1.heap.size u1 w' := hSw; have hq_wd : Below wd.heap.size wd w' := HU_wd_u1.out.trans (hSw.mono HU_wd_u1.out.size); have hq := hq_wd; have cc := (HX1.out.below hq_u1).conv; rw [HS1.out] at cc; clear hSw; try clear hq hq_wd hq_u1; go_simp; try with_reducible rfl)
    simp only [List.getElem_toArray, List.getElem_cons_succ, List.getElem_cons_zero, Act.put, List.setIfInBounds_toArray, List.set_cons_zero, List.set_cons_succ]
    refine wpAnyH_ready (rs := [8]) (by kernel_rfl) (by simp) ?_
    refine AllReadyH.cons rfl (fun K' hK => ?_) AllReadyH.nil
    simp only [List.getElem_toArray, List.getElem_cons_succ, List.getElem_cons_zero]
    go_simp
    refine (rconfirmed_any A B a b n1 c1 n2 c2 _ (HAd.out.below HU_wd_u1.out) (HBd.out.below HU_wd_u1.out) (by omega) (by omega)).mono ?_
    rintro e' u2 ⟨X2, m2, d2, rfl, hX, hb⟩
    have HU_u1_u2 := Lib.hid hb
    rw [HE1.out] at hX
    have HX2 := Lib.hid hX.any
    clear hX
    have HU_wd_u2 := Lib.hid (HU_wd_u1.out.trans (HU_u1_u2.out.mono HU_wd_u1.out.size))
    refine hK.out _ _ HU_u1_u2.out (fun _ => ?_)
    clear hK
    try simp only [List.getElem_toArray, List.getElem_cons_succ, List.getElem_cons_zero, Act.put, List.setIfInBounds_toArray, List.set_cons_zero, List.set_cons_succ]
    have HSu2 : Hid (Below u2.heap.size u2 u2) := Lib.hid (Below.refl _ _)
    refine Sha.wpAnyH_more (S' := fun W => Below u2.heap.size u2 W) (fun W h => HU_u1_u2.out.trans (h.mono HU_u1_u2.out.size)) _ _ _ _ ?_
    refine wpAnyH_take (i := 9) (v := ?ve8) rfl (by kernel_rfl) (by kernel_rfl) (by kernel_rfl) (fun _ _ _ h => h) (Or.inl ⟨by rfl, ?ye8⟩) HSu2.out ?re8
    case ye8 => (intro w' hSw; have hq_u2 : Below u2.heap.size u2 w' := hSw; have hq_u1 : Below u1.heap.size u1 w' := HU_u1_u2.out.trans (hSw.mono HU_u1_u2.out.size); have hq_wd : Below wd.heap.size wd w' := HU_wd_u2.out.trans (hSw.mono HU_wd_u2.out.size); have hq := hq_wd; have cc := (HX2.out.below hq_u2).conv; rw [HS1.out] at cc; clear hSw; try clear hq hq_wd hq_u1 hq_u2; go_simp; try with_reducible rfl)
    simp only [List.getElem_toArray, List.getElem_cons_succ, List.getElem_cons_zero, Act.put, List.setIfInBounds_toArray, List.set_cons_zero, List.set_cons_succ]
    refine wpAnyH_take (i := 10) (v := ?ve9) rfl (by kernel_rfl) (by kernel_rfl) (by kernel_rfl) (fun _ _ _ h => h) (Or.inl ⟨by rfl, ?ye9⟩) HSu2.out ?re9
    case ye9 => (intro w' hSw; clear hSw; go_simp; try with_reducible rfl)
    simp only [List.getElem_toArray, List.getElem_cons_succ, List.getElem_cons_zero, Act.put, List.setIfInBounds_toArray, List.set_cons_zero, List.set_cons_succ]
    refine wpAnyH_take (i := 11) (v := ?ve10) rfl (by kernel_rfl) (by kernel_rfl) (by kernel_rfl) (fun _ _ _ h => h) (Or.inl ⟨by rfl, ?ye10⟩) HSu2.out ?re10
    case ye10 => (intro w' hSw; clear hSw; go_simp; try with_reducible rfl)
    simp only [List.getElem_toArray, List.getElem_cons_succ, List.getElem_cons_zero, Act.put, List.setIfInBounds_toArray, List.set_cons_zero, List.set_cons_succ]
    refine wpAnyH_take (i := 12) (v := ?ve11) rfl (by kernel_rfl) (by kernel_rfl) (by kernel_rfl) (fun _ _ _ h => h) (Or.inl ⟨by rfl, ?ye11⟩) HSu2.out ?re11
    case ye11 => (intro w' hSw; clear hSw; go_simp; try with_reducible rfl)
    simp only [List.getElem_toArray, List.getElem_cons_succ, List.getElem_cons_zero, Act.put, List.setIfInBounds_toArray, List.set_cons_zero, List.set_cons_succ]
    refine wpAnyH_take (i := 13) (v := ?ve12) rfl (by kernel_rfl) (by kernel_rfl) (by kernel_rfl) (fun _ _ _ h => h) (Or.inl ⟨by rfl, ?ye12⟩) HSu2.out ?re12
    case ye12 => (intro w' hSw; clear hSw; go_simp; try with_reducible rfl)
    simp only [List.getElem_toArray, List.getElem_cons_succ, List.getElem_cons_zero, Act.put, List.setIfInBounds_toArray, List.set_cons_zero, List.set_cons_succ]
    refine wpAnyH_take (i := 14) (v := ?ve13) rfl (by kernel_rfl) (by kernel_rfl) (by kernel_rfl) (fun _ _ _ h => h) (Or.inl ⟨by rfl, ?ye13⟩) HSu2.out ?re13
    case ye13 => (intro w' hSw; clear hSw; go_simp; try with_reducible rfl)
    simp only [List.getElem_toArray, List.getElem_cons_succ, List.getElem_cons_zero, Act.put, List.setIfInBounds_toArray, List.set_cons_zero, List.set_cons_succ]
    refine wpAnyH_take (i := 17) (v := ?ve14) rfl (by kernel_rfl) (by kernel_rfl) (by kernel_rfl) (fun _ _ _ h => h) (Or.inl ⟨by rfl, ?ye14⟩) HSu2.out ?re14
    case ye14 => (intro w' hSw; clear hSw; go_simp; try with_reducible rfl)
    simp only [List.getElem_toArray, List.getElem_cons_succ, List.getElem_cons_zero, Act.put, List.setIfInBounds_toArray, List.set_cons_zero, List.set_cons_succ]
    refine wpAnyH_take (i := 18) (v := ?ve15) rfl (by kernel_rfl) (by kernel_rfl) (by kernel_rfl) (fun _ _ _ h => h) (Or.inl ⟨by rfl, ?ye15⟩) HSu2.out ?re15
    case ye15 => (intro w' hSw; clear hSw; go_simp; try with_reducible rfl)
    simp only [List.getElem_toArray, List.getElem_cons_succ, List.getElem_cons_zero, Act.put, List.setIfInBounds_toArray, List.set_cons_zero, List.set_cons_succ]
    refine wpAnyH_ready (rs := [15]) (by kernel_rfl) (by simp) ?_
    refine AllReadyH.cons rfl (fun K' hK => ?_) AllReadyH.nil
    simp only [List.getElem_toArray, List.getElem_cons_succ, List.getElem_cons_zero]
    go_simp
    refine (interim_any A B a b n1 c1 n2 c2 _ (HTd.out.at HU_wd_u2.out) (HAd.out.below HU_wd_u2.out) (HBd.out.below HU_wd_u2.out) (by omega) (by omega)).mono ?_
    rintro e' u3 ⟨X3, m3, d3, rfl, hX, hb⟩
    have HU_u2_u3 := Lib.hid hb
    rw [HE1.out] at hX
    have HX3 := Lib.hid hX.any
    clear hX
    have HU_u1_u3 := Lib.hid (HU_u1_u2.out.trans (HU_u2_u3.out.mono HU_u1_u2.out.size))
    have HU_wd_u3 := Lib.hid (HU_wd_u2.out.trans (HU_u2_u3.out.mono HU_wd_u2.out.size))
    refine hK.out _ _ HU_u2_u3.out (fun _ => ?_)
    clear hK
    try simp only [List.getElem_toArray, List.getElem_cons_succ, List.getElem_cons_zero, Act.put, List.setIfInBounds_toArray, List.set_cons_zero, List.set_cons_succ]
    have HSu3 : Hid (Below u3.heap.size u3 u3) := Lib.hid (Below.refl _ _)
    refine Sha.wpAnyH_more (S' := fun W => Below u3.heap.size u3 W) (fun W h => HU_u2_u3.out.trans (h.mono HU_u2_u3.out.size)) _ _ _ _ ?_
    refine wpAnyH_take (i := 16) (v := ?ve16) rfl (by kernel_rfl) (by kernel_rfl) (by kernel_rfl) (fun _ _ _ h => h) (Or.inl ⟨by rfl, ?ye16⟩) HSu3.out ?re16
    case ye16 => (intro w' hSw; have hq_u3 : Below u3.heap.size u3 w' := hSw; have hq_u2 : Below u2.heap.size u2 w' := HU_u2_u3.out.trans (hSw.mono HU_u2_u3.out.size); have hq_u1 : Below u1.heap.size u1 w' := HU_u1_u3.out.trans (hSw.mono HU_u1_u3.out.size); have hq_wd : Below wd.heap.size wd w' := HU_wd_u3.out.trans (hSw.mono HU_wd_u3.out.size); have hq := hq_wd; have cc := (HX3.out.below hq_u3).conv; rw [HS1.out] at cc; clear hSw; try clear hq hq_wd hq_u1 hq_u2 hq_u3; go_simp; try with_reducible rfl)
    simp only [List.getElem_toArray, List.getElem_cons_succ, List.getElem_cons_zero, Act.put, List.setIfInBounds_toArray, List.set_cons_zero, List.set_cons_succ]
    refine wpAnyH_ready (rs := [19]) (by kernel_rfl) (by simp) ?_
    refine AllReadyH.cons rfl (fun K' hK => ?_) AllReadyH.nil
    simp only [List.getElem_toArray, List.getElem_cons_succ, List.getElem_cons_zero]
    go_simp
    refine (rinterim_any A B a b n1 c1 n2 c2 _ (HAd.out.below HU_wd_u3.out) (HBd.out.below HU_wd_u3.out) (by omega) (by omega)).mono ?_
    rintro e' u4 ⟨X4, m4, d4, rfl, hX, hb⟩
    have HU_u3_u4 := Lib.hid hb
    rw [HE1.out] at hX
    have HX4 := Lib.hid hX.any
    clear hX
    have HU_u2_u4 := Lib.hid (HU_u2_u3.out.trans (HU_u3_u4.out.mono HU_u2_u3.out.size))
    have HU_u1_u4 := Lib.hid (HU_u1_u3.out.trans (HU_u3_u4.out.mono HU_u1_u3.out.size))
    have HU_wd_u4 := Lib.hid (HU_wd_u3.out.trans (HU_u3_u4.out.mono HU_wd_u3.out.size))
    refine hK.out _ _ HU_u3_u4.out (fun _ => ?_)
    clear hK
    try simp only [List.getElem_toArray, List.getElem_cons_succ, List.getElem_cons_zero, Act.put, List.setIfInBounds_toArray, List.set_cons_zero, List.set_cons_succ]
    have HSu4 : Hid (Below u4.heap.size u4 u4) := Lib.hid (Below.refl _ _)
    refine Sha.wpAnyH_more (S' := fun W => Below u4.heap.size u4 W) (fun W h => HU_u3_u4.out.trans (h.mono HU_u3_u4.out.size)) _ _ _ _ ?_
    refine wpAnyH_take (i := 20) (v := ?ve17) rfl (by kernel_rfl) (by kernel_rfl) (by kernel_rfl) (fun _ _ _ h => h) (Or.inl ⟨by rfl, ?ye17⟩) HSu4.out ?re17
    case ye17 => (intro w' hSw; have hq_u4 : Below u4.heap.size u4 w' := hSw; have hq_u3 : Below u3.heap.size u3 w' := HU_u3_u4.out.trans (hSw.mono HU_u3_u4.out.size); have hq_u2 : Below u2.heap.size u2 w' := HU_u2_u4.out.trans (hSw.mono HU_u2_u4.out.size); have hq_u1 : Below u1.heap.size u1 w' := HU_u1_u4.out.trans (hSw.mono HU_u1_u4.out.size); have hq_wd : Below wd.heap.size wd w' := HU_wd_u4.out.trans (hSw.mono HU_wd_u4.out.size); have hq := hq_wd; have cc := (HX4.out.below hq_u4).conv; rw [HS1.out] at cc; clear hSw; try clear hq hq_wd hq_u1 hq_u2 hq_u3 hq_u4; go_simp; try with_reducible rfl)
    simp only [List.getElem_toArray, List.getElem_cons_succ, List.getElem_cons_zero, Act.put, List.setIfInBounds_toArray, List.set_cons_zero, List.set_cons_succ]
    refine wpAnyH_take (i := 21) (v := ?ve18) rfl (by kernel_rfl) (by kernel_rfl) (by kernel_rfl) (fun _ _ _ h => h) (Or.inl ⟨by rfl, ?ye18⟩) HSu4.out ?re18
    case ye18 => (intro w' hSw; clear hSw; go_simp; try with_reducible rfl)
    simp only [List.getElem_toArray, List.getElem_cons_succ, List.getElem_cons_zero, Act.put, List.setIfInBounds_toArray, List.set_cons_zero, List.set_cons_succ]
    refine wpAnyH_take (i := 22) (v := ?ve19) rfl (by kernel_rfl) (by kernel_rfl) (by kernel_rfl) (fun _ _ _ h => h) (Or.inl ⟨by rfl, ?ye19⟩) HSu4.out ?re19
    case ye19 => (intro w' hSw; clear hSw; go_simp; try with_reducible rfl)
    simp only [List.getElem_toArray, List.getElem_cons_succ, List.getElem_cons_zero, Act.put, List.setIfInBounds_toArray, List.set_cons_zero, List.set_cons_succ]
    refine wpAnyH_take (i := 23) (v := ?ve20) rfl (by kernel_rfl) (by kernel_rfl) (by kernel_rfl) (fun _ _ _ h => h) (Or.inl ⟨by rfl, ?ye20⟩) HSu4.out ?re20
    case ye20 => (intro w' hSw; clear hSw; go_simp; try with_reducible rfl)
    simp only [List.getElem_toArray, List.getElem_cons_succ, List.getElem_cons_zero, Act.put, List.setIfInBounds_toArray, List.set_cons_zero, List.set_cons_succ]
    refine wpAnyH_take (i := 24) (v := ?ve21) rfl (by kernel_rfl) (by kernel_rfl) (by kernel_rfl) (fun _ _ _ h => h) (Or.inl ⟨by rfl, ?ye21⟩) HSu4.out ?re21
    case ye21 => (intro w' hSw; have hq_u4 : Below u4.heap.size u4 w' := hSw; have hq_u3 : Below u3.heap.size u3 w' := HU_u3_u4.out.trans (hSw.mono HU_u3_u4.out.size); have hq_u2 : Below u2.heap.size u2 w' := HU_u2_u4.out.trans (hSw.mono HU_u2_u4.out.size); have hq_u1 : Below u1.heap.size u1 w' := HU_u1_u4.out.trans (hSw.mono HU_u1_u4.out.size); have hq_wd : Below wd.heap.size wd w' := HU_wd_u4.out.trans (hSw.mono HU_wd_u4.out.size); have hq := hq_wd; obtain ⟨s0, s1, s2, s3, s4, s5, s6⟩ := (HRd.out.below hq_wd HRL.out).cs; clear hSw; try clear hq hq_wd hq_u1 hq_u2 hq_u3 hq_u4; go_simp; try with_reducible rfl)
    simp only [List.getElem_toArray, List.getElem_cons_succ, List.getElem_cons_zero, Act.put, List.setIfInBounds_toArray, List.set_cons_zero, List.set_cons_succ]
    refine wpAnyH_take (i := 25) (v := ?ve22) rfl (by kernel_rfl) (by kernel_rfl) (by kernel_rfl) (fun _ _ _ h => h) (Or.inl ⟨by rfl, ?ye22⟩) HSu4.out ?re22
    case ye22 => (intro w' hSw; clear hSw; go_simp; try with_reducible rfl)
    simp only [List.getElem_toArray, List.getElem_cons_succ, List.getElem_cons_zero, Act.put, List.setIfInBounds_toArray, List.set_cons_zero, List.set_cons_succ]
    refine wpAnyH_take (i := 26) (v := ?ve23) rfl (by kernel_rfl) (by kernel_rfl) (by kernel_rfl) (fun _ _ _ h => h) (Or.inl ⟨by rfl, ?ye23⟩) HSu4.out ?re23
    case ye23 => (intro w' hSw; clear hSw; go_simp; try with_reducible rfl)
    simp only [List.getElem_toArray, List.getElem_cons_succ, List.getElem_cons_zero, Act.put, List.setIfInBounds_toArray, List.set_cons_zero, List.set_cons_succ]
    refine wpAnyH_take (i := 27) (v := ?ve24) rfl (by kernel_rfl) (by kernel_rfl) (by kernel_rfl) (fun _ _ _ h => h) (Or.inl ⟨by rfl, ?ye24⟩) HSu4.out ?re24
    case ye24 => (intro w' hSw; clear hSw; go_simp; try with_reducible rfl)
    simp only [List.getElem_toArray, List.getElem_cons_succ, List.getElem_cons_zero, Act.put, List.setIfInBounds_toArray, List.set_cons_zero, List.set_cons_succ]
    refine wpAnyH_take (i := 30) (v := ?ve25) rfl (by kernel_rfl) (by kernel_rfl) (by kernel_rfl) (fun _ _ _ h => h) (Or.inl ⟨by rfl, ?ye25⟩) HSu4.out ?re25
    case ye25 => (intro w' hSw; have hq_u4 : Below u4.heap.size u4 w' := hSw; have hq_u3 : Below u3.heap.size u3 w' := HU_u3_u4.out.trans (hSw.mono HU_u3_u4.out.size); have hq_u2 : Below u2.heap.size u2 w' := HU_u2_u4.out.trans (hSw.mono HU_u2_u4.out.size); have hq_u1 : Below u1.heap.size u1 w' := HU_u1_u4.out.trans (hSw.mono HU_u1_u4.out.size); have hq_wd : Below wd.heap.size wd w' := HU_wd_u4.out.trans (hSw.mono HU_wd_u4.out.size); have hq := hq_wd; obtain ⟨s0, s1, s2, s3, s4, s5, s6⟩ := (HRd.out.below hq_wd HRL.out).cs; clear hSw; try clear hq hq_wd hq_u1 hq_u2 hq_u3 hq_u4; go_simp; try with_reducible rfl)
    simp only [List.getElem_toArray, List.getElem_cons_succ, List.getElem_cons_zero, Act.put, List.setIfInBounds_toArray, List.set_cons_zero, List.set_cons_succ]
    refine wpAnyH_take (i := 31) (v := ?ve26) rfl (by kernel_rfl) (by kernel_rfl) (by kernel_rfl) (fun _ _ _ h => h) (Or.inl ⟨by rfl, ?ye26⟩) HSu4.out ?re26
    case ye26 => (intro w' hSw; clear hSw; go_simp; try with_reducible rfl)
    simp only [List.getElem_toArray, List.getElem_cons_succ, List.getElem_cons_zero, Act.put, List.setIfInBounds_toArray, List.set_cons_zero, List.set_cons_succ]
    refine wpAnyH_take (i := 32) (v := ?ve27) rfl (by kernel_rfl) (by kernel_rfl) (by kernel_rfl) (fun _ _ _ h => h) (Or.inl ⟨by rfl, ?ye27⟩) HSu4.out ?re27
    case ye27 => (intro w' hSw; clear hSw; go_simp; try with_reducible rfl)
    simp only [List.getElem_toArray, List.getElem_cons_succ, List.getElem_cons_zero, Act.put, List.setIfInBounds_toArray, List.set_cons_zero, List.set_cons_succ]
    refine wpAnyH_take (i := 33) (v := ?ve28) rfl (by kernel_rfl) (by kernel_rfl) (by kernel_rfl) (fun _ _ _ h => h) (Or.inl ⟨by rfl, ?ye28⟩) HSu4.out ?re28
    case ye28 => (intro w' hSw; clear hSw; go_simp; try with_reducible rfl)
    simp only [List.getElem_toArray, List.getElem_cons_succ, List.getElem_cons_zero, Act.put, List.setIfInBounds_toArray, List.set_cons_zero, List.set_cons_succ]
    refine wpAnyH_ready (rs := [28]) (by kernel_rfl) (by simp) ?_
    refine AllReadyH.cons rfl (fun K' hK => ?_) AllReadyH.nil
    simp only [List.getElem_toArray, List.getElem_cons_succ, List.getElem_cons_zero]
    go_simp
    refine (export_any q A key l a n1 c1 n _ (HTd.out.at HU_wd_u4.out) (HKd.out.below HU_wd_u4.out) (HAd.out.below HU_wd_u4.out) (by omega) (by omega)).mono ?_
    rintro e' u5 ⟨X5, m5, d5, rfl, hX, hb⟩
    have HU_u4_u5 := Lib.hid hb
    rw [HE2.out] at hX
    have HX5 := Lib.hid hX.any
    clear hX
    have HU_u3_u5 := Lib.hid (HU_u3_u4.out.trans (HU_u4_u5.out.mono HU_u3_u4.out.size))
    have HU_u2_u5 := Lib.hid (HU_u2_u4.out.trans (HU_u4_u5.out.mono HU_u2_u4.out.size))
    have HU_u1_u5 := Lib.hid (HU_u1_u4.out.trans (HU_u4_u5.out.mono HU_u1_u4.out.size))
    have HU_wd_u5 := Lib.hid (HU_wd_u4.out.trans (HU_u4_u5.out.mono HU_wd_u4.out.size))
    refine hK.out _ _ HU_u4_u5.out (fun _ => ?_)
    clear hK
    try simp only [List.getElem_toArray, List.getElem_cons_succ, List.getElem_cons_zero, Act.put, List.setIfInBounds_toArray, List.set_cons_zero, List.set_cons_succ]
    have HSu5 : Hid (Below u5.heap.size u5 u5) := Lib.hid (Below.refl _ _)
    refine Sha.wpAnyH_more (S' := fun W => Below u5.heap.size u5 W) (fun W h => HU_u4_u5.out.trans (h.mono HU_u4_u5.out.size)) _ _ _ _ ?_
    refine wpAnyH_take (i := 29) (v := ?ve29) rfl (by kernel_rfl) (by kernel_rfl) (by kernel_rfl) (fun _ _ _ h => h) (Or.inl ⟨by rfl, ?ye29⟩) HSu5.out ?re29
    case ye29 => (intro w' hSw; have hq_u5 : Below u5.heap.size u5 w' := hSw; have hq_u4 : Below u4.heap.size u4 w' := HU_u4_u5.out.trans (hSw.mono HU_u4_u5.out.size); have hq_u3 : Below u3.heap.size u3 w' := HU_u3_u5.out.trans (hSw.mono HU_u3_u5.out.size); have hq_u2 : Below u2.heap.size u2 w' := HU_u2_u5.out.trans (hSw.mono HU_u2_u5.out.size); have hq_u1 : Below u1.heap.size u1 w' := HU_u1_u5.out.trans (hSw.mono HU_u1_u5.out.size); have hq_wd : Below wd.heap.size wd w' := HU_wd_u5.out.trans (hSw.mono HU_wd_u5.out.size); have hq := hq_wd; have cc := (HX5.out.below hq_u5).conv; rw [HS2.out] at cc; clear hSw; try clear hq hq_wd hq_u1 hq_u2 hq_u3 hq_u4 hq_u5; go_simp; try with_reducible rfl)
    simp only [List.getElem_toArray, List.getElem_cons_succ, List.getElem_cons_zero, Act.put, List.setIfInBounds_toArray, List.set_cons_zero, List.set_cons_succ]
    refine wpAnyH_ready (rs := [34]) (by kernel_rfl) (by simp) ?_
    refine AllReadyH.cons rfl (fun K' hK => ?_) AllReadyH.nil
    simp only [List.getElem_toArray, List.getElem_cons_succ, List.getElem_cons_zero]
    go_simp
    refine (rexport_any q A key l a n1 c1 n _ (HKd.out.below HU_wd_u5.out) (HAd.out.below HU_wd_u5.out) (by omega) (by omega)).mono ?_
    rintro e' u6 ⟨X6, m6, d6, rfl, hX, hb⟩
    have HU_u5_u6 := Lib.hid hb
    rw [HE2.out] at hX
    have HX6 := Lib.hid hX.any
    clear hX
    have HU_u4_u6 := Lib.hid (HU_u4_u5.out.trans (HU_u5_u6.out.mono HU_u4_u5.out.size))
    have HU_u3_u6 := Lib.hid (HU_u3_u5.out.trans (HU_u5_u6.out.mono HU_u3_u5.out.size))
    have HU_u2_u6 := Lib.hid (HU_u2_u5.out.trans (HU_u5_u6.out.mono HU_u2_u5.out.size))
    have HU_u1_u6 := Lib.hid (HU_u1_u5.out.trans (HU_u5_u6.out.mono HU_u1_u5.out.size))
    have HU_wd_u6 := Lib.hid (HU_wd_u5.out.trans (HU_u5_u6.out.mono HU_wd_u5.out.size))
    refine hK.out _ _ HU_u5_u6.out (fun _ => ?_)
    clear hK
    try simp only [List.getElem_toArray, List.getElem_cons_succ, List.getElem_cons_zero, Act.put, List.setIfInBounds_toArray, List.set_cons_zero, List.set_cons_succ]
    have HSu6 : Hid (Below u6.heap.size u6 u6) := Lib.hid (Below.refl _ _)
    refine Sha.wpAnyH_more (S' := fun W => Below u6.heap.size u6 W) (fun W h => HU_u5_u6.out.trans (h.mono HU_u5_u6.out.size)) _ _ _ _ ?_
    refine wpAnyH_take (i := 35) (v := ?ve30) rfl (by kernel_rfl) (by kernel_rfl) (by kernel_rfl) (fun _ _ _ h => h) (Or.inl ⟨by rfl, ?ye30⟩) HSu6.out ?re30
    case ye30 => (intro w' hSw; have hq_u6 : Below u6.heap.size u6 w' := hSw; have hq_u5 : Below u5.heap.size u5 w' := HU_u5_u6.out.trans (hSw.mono HU_u5_u6.out.size); have hq_u4 : Below u4.heap.size u4 w' := HU_u4_u6.out.trans (hSw.mono HU_u4_u6.out.size); have hq_u3 : Below u3.heap.size u3 w' := HU_u3_u6.out.trans (hSw.mono HU_u3_u6.out.size); have hq_u2 : Below u2.heap.size u2 w' := HU_u2_u6.out.trans (hSw.mono HU_u2_u6.out.size); have hq_u1 : Below u1.heap.size u1 w' := HU_u1_u6.out.trans (hSw.mono HU_u1_u6.out.size); have hq_wd : Below wd.heap.size wd w' := HU_wd_u6.out.trans (hSw.mono HU_wd_u6.out.size); have hq := hq_wd; have cc := (HX6.out.below hq_u6).conv; rw [HS2.out] at cc; clear hSw; try clear hq hq_wd hq_u1 hq_u2 hq_u3 hq_u4 hq_u5 hq_u6; go_simp; try with_reducible rfl)
    simp only [List.getElem_toArray, List.getElem_cons_succ, List.getElem_cons_zero, Act.put, List.setIfInBounds_toArray, List.set_cons_zero, List.set_cons_succ]
    refine wpAnyH_take (i := 36) (v := ?ve31) rfl (by kernel_rfl) (by kernel_rfl) (by kernel_rfl) (fun _ _ _ h => h) (Or.inl ⟨by rfl, ?ye31⟩) HSu6.out ?re31
    case ye31 => (intro w' hSw; clear hSw; go_simp; try with_reducible rfl)
    simp only [List.getElem_toArray, List.getElem_cons_succ, List.getElem_cons_zero, Act.put, List.setIfInBounds_toArray, List.set_cons_zero, List.set_cons_succ]
    refine wpAnyH_take (i := 37) (v := ?ve32) rfl (by kernel_rfl) (by kernel_rfl) (by kernel_rfl) (fun _ _ _ h => h) (Or.inl ⟨by rfl, ?ye32⟩) HSu6.out ?re32
    case ye32 => (intro w' hSw; clear hSw; go_simp; try with_reducible rfl)
    simp only [List.getElem_toArray, List.getElem_cons_succ, List.getElem_cons_zero, Act.put, List.setIfInBounds_toArray, List.set_cons_zero, List.set_cons_succ]
    refine wpAnyH_take (i := 38) (v := ?ve33) rfl (by kernel_rfl) (by kernel_rfl) (by kernel_rfl) (fun _ _ _ h => h) (Or.inl ⟨by rfl, ?ye33⟩) HSu6.out ?re33
    case ye33 => (intro w' hSw; clear hSw; go_simp; try with_reducible rfl)
    simp only [List.getElem_toArray, List.getElem_cons_succ, List.getElem_cons_zero, Act.put, List.setIfInBounds_toArray, List.set_cons_zero, List.set_cons_succ]
    refine wpAnyH_done (by kernel_rfl) ?_ _
    change Exit.then _ _ Exit.normal _ _
    go_wp2
    go_ret
    exact ⟨rfl, HBf.out.trans (HU_wd_u6.out.mono HBf.out.size)⟩
  case neg =>
    go_wp2_with fail
    have HBd0d : Hid (Below w0.heap.size w0 w1.drew) := Lib.hid HBd0.out.drew
    have HTd : Hid (Tabs w1.drew) := Lib.hid (HT.out.at HBd0d.out)
    have HAd : Hid (Txt Any w1.drew A n1 c1 a) := Lib.hid (HA.out.below HBd0d.out)
    have HBd : Hid (Txt Any w1.drew B n2 c2 b) := Lib.hid (HB.out.below HBd0d.out)
    have HKd : Hid (Txt Any w1.drew q.A3 q.n3 q.c3 key) := Lib.hid (HK.out.below HBd0d.out)
    have HRd : Hid (Row7 w1.drew w.heap.size (.slice q.A0 q.n0 q.c0) (.slice q.A1 q.n1 q.c1) (.slice q.A2 q.n2 q.c2) (.slice q.A3 q.n3 q.c3) (.slice q.A4 q.n4 q.c4) (.slice q.A5 q.n5 q.c5) (.slice q.A6 q.n6 q.c6)) := Lib.hid (HR.out.below HBd0d.out HL.out)
    have HRL : Hid (w.heap.size < w1.drew.heap.size) := Lib.hid (Nat.lt_of_lt_of_le HL.out HBd0d.out.size)
    have HBf : Hid (Below w.heap.size w w1.drew) := Lib.hid B1.out.drew
    clear s0 s1 s2 s3 s4 s5 s6 HBd0
    try simp only [Act.put]
    refine Wr.region_calm ?_
    refine wp_region_any (by kernel_rfl) ?_
    change wpAny _ _ _ _ _ _ _ (World.drew w1)
    generalize World.drew w1 = wd at *
    have HSwd : Hid (Below wd.heap.size wd wd) := Lib.hid (Below.refl _ _)
    refine wpAny_of_held (S := fun W => Below wd.heap.size wd W) _ _ _ _ ?_
    refine wpAnyH_take (i := 0) (v := ?vx1) rfl (by kernel_rfl) (by kernel_rfl) (by kernel_rfl) (fun _ _ _ h => h) (Or.inl ⟨by rfl, ?yx1⟩) HSwd.out ?rx1
    case yx1 => (intro w' hSw; clear hSw; go_simp; try with_reducible rfl)
    simp only [List.getElem_toArray, List.getElem_cons_succ, List.getElem_cons_zero, Act.put, List.setIfInBounds_toArray, List.set_cons_zero, List.set_cons_succ]
    refine wpAnyH_take (i := 1) (v := ?vx2) rfl (by kernel_rfl) (by kernel_rfl) (by kernel_rfl) (fun _ _ _ h => h) (Or.inl ⟨by rfl, ?yx2⟩) HSwd.out ?rx2
    case yx2 => (intro w' hSw; clear hSw; go_simp; try with_reducible rfl)
    simp only [List.getElem_toArray, List.getElem_cons_succ, List.getElem_cons_zero, Act.put, List.setIfInBounds_toArray, List.set_cons_zero, List.set_cons_succ]
    refine wpAnyH_take (i := 2) (v := ?vx3) rfl (by kernel_rfl) (by kernel_rfl) (by kernel_rfl) (fun _ _ _ h => h) (Or.inl ⟨by rfl, ?yx3⟩) HSwd.out ?rx3
    case yx3 => (intro w' hSw; clear hSw; go_simp; try with_reducible rfl)
    simp only [List.getElem_toArray, List.getElem_cons_succ, List.getElem_cons_zero, Act.put, List.setIfInBounds_toArray, List.set_cons_zero, List.set_cons_succ]
    refine wpAnyH_take (i := 3) (v := ?vx4) rfl (by kernel_rfl) (by kernel_rfl) (by kernel_rfl) (fun _ _ _ h => h) (Or.inl ⟨by rfl, ?yx4⟩) HSwd.out ?rx4
    case yx4 => (intro w' hSw; clear hSw; go_simp; try with_reducible rfl)
    simp only [List.getElem_toArray, List.getElem_cons_succ, List.getElem_cons_zero, Act.put, List.setIfInBounds_toArray, List.set_cons_zero, List.set_cons_succ]
    refine wpAnyH_take (i := 6) (v := ?vx5) rfl (by kernel_rfl) (by kernel_rfl) (by kernel_rfl) (fun _ _ _ h => h) (Or.inl ⟨by rfl, ?yx5⟩) HSwd.out ?rx5
    case yx5 => (intro w' hSw; clear hSw; go_simp; try with_reducible rfl)
    simp only [List.getElem_toArray, List.getElem_cons_succ, List.getElem_cons_zero, Act.put, List.setIfInBounds_toArray, List.set_cons_zero, List.set_cons_succ]
    refine wpAnyH_take (i := 7) (v := ?vx6) rfl (by kernel_rfl) (by kernel_rfl) (by kernel_rfl) (fun _ _ _ h => h) (Or.inl ⟨by rfl, ?yx6⟩) HSwd.out ?rx6
    case yx6 => (intro w' hSw; clear hSw; go_simp; try with_reducible rfl)
    simp only [List.getElem_toArray, List.getElem_cons_succ, List.getElem_cons_zero, Act.put, List.setIfInBounds_toArray, List.set_cons_zero, List.set_cons_succ]
    refine wpAnyH_ready (rs := [4]) (by kernel_rfl) (by simp) ?_
    refine AllReadyH.cons rfl (fun K' hK => ?_) AllReadyH.nil
    simp only [List.getElem_toArray, List.getElem_cons_succ, List.getElem_cons_zero]
    go_simp
    refine (confirmed_any A B a b n1 c1 n2 c2 _ HTd.out HAd.out HBd.out (by omega) (by omega)).mono ?_
    rintro e' u1 ⟨X1, m1, d1, rfl, hX, hb⟩
    have HU_wd_u1 := Lib.hid hb
    rw [HE1.out] at hX
    have HX1 := Lib.hid hX.any
    clear hX
    refine hK.out _ _ HU_wd_u1.out (fun _ => ?_)
    clear hK
    try simp only [List.getElem_toArray, List.getElem_cons_succ, List.getElem_cons_zero, Act.put, List.setIfInBounds_toArray, List.set_cons_zero, List.set_cons_succ]
    have HSu1 : Hid (Below u1.heap.size u1 u1) := Lib.hid (Below.refl _ _)
    refine Sha.wpAnyH_more (S' := fun W => Below u1.heap.size u1 W) (fun W h => HU_wd_u1.out.trans (h.mono HU_wd_u1.out.size)) _ _ _ _ ?_
    refine wpAnyH_take (i := 5) (v := ?vx7) rfl (by kernel_rfl) (by kernel_rfl) (by kernel_rfl) (fun _ _ _ h => h) (Or.inl ⟨by rfl, ?yx7⟩) HSu1.out ?rx7
    case yx7 => (intro w' hSw; have hq_u1 : Below u1.heap.size u1 w' := hSw; have hq_wd : Below wd.heap.size wd w' := HU_wd_u1.out.trans (hSw.mono HU_wd_u1.out.size); have hq := hq_wd; have cc := (HX1.out.below hq_u1).conv; rw [HS1.out] at cc; clear hSw; try clear hq hq_wd hq_u1; go_simp; try with_reducible rfl)
    simp only [List.getElem_toArray, List.getElem_cons_succ, List.getElem_cons_zero, Act.put, List.setIfInBounds_toArray, List.set_cons_zero, List.set_cons_succ]
    refine wpAnyH_ready (rs := [8]) (by kernel_rfl) (by simp) ?_
    refine AllReadyH.cons rfl (fun K' hK => ?_) AllReadyH.nil
    simp only [List.getElem_toArray, List.getElem_cons_succ, List.getElem_cons_zero]
    go_simp
    refine (rconfirmed_any A B a b n1 c1 n2 c2 _ (HAd.out.below HU_wd_u1.out) (HBd.out.below HU_wd_u1.out) (by omega) (by omega)).mono ?_
    rintro e' u2 ⟨X2, m2, d2, rfl, hX, hb⟩
    have HU_u1_u2 := Lib.hid hb
    rw [HE1.out] at hX
    have HX2 := Lib.hid hX.any
    clear hX
    have HU_wd_u2 := Lib.hid (HU_wd_u1.out.trans (HU_u1_u2.out.mono HU_wd_u1.out.size))
    refine hK.out _ _ HU_u1_u2.out (fun _ => ?_)
    clear hK
    try simp only [List.getElem_toArray, List.getElem_cons_succ, List.getElem_cons_zero, Act.put, List.setIfInBounds_toArray, List.set_cons_zero, List.set_cons_succ]
    have HSu2 : Hid (Below u2.heap.size u2 u2) := Lib.hid (Below.refl _ _)
    refine Sha.wpAnyH_more (S' := fun W => Below u2.heap.size u2 W) (fun W h => HU_u1_u2.out.trans (h.mono HU_u1_u2.out.size)) _ _ _ _ ?_
    refine wpAnyH_take (i := 9) (v := ?vx8) rfl (by kernel_rfl) (by kernel_rfl) (by kernel_rfl) (fun _ _ _ h => h) (Or.inl ⟨by rfl, ?yx8⟩) HSu2.out ?rx8
    case yx8 => (intro w' hSw; have hq_u2 : Below u2.heap.size u2 w' := hSw; have hq_u1 : Below u1.heap.size u1 w' := HU_u1_u2.out.trans (hSw.mono HU_u1_u2.out.size); have hq_wd : Below wd.heap.size wd w' := HU_wd_u2.out.trans (hSw.mono HU_wd_u2.out.size); have hq := hq_wd; have cc := (HX2.out.below hq_u2).conv; rw [HS1.out] at cc; clear hSw; try clear hq hq_wd hq_u1 hq_u2; go_simp; try with_reducible rfl)
    simp only [List.getElem_toArray, List.getElem_cons_succ, List.getElem_cons_zero, Act.put, List.setIfInBounds_toArray, List.set_cons_zero, List.set_cons_succ]
    refine wpAnyH_take (i := 10) (v := ?vx9) rfl (by kernel_rfl) (by kernel_rfl) (by kernel_rfl) (fun _ _ _ h => h) (Or.inl ⟨by rfl, ?yx9⟩) HSu2.out ?rx9
    case yx9 => (intro w' hSw; clear hSw; go_simp; try with_reducible rfl)
    simp only [List.getElem_toArray, List.getElem_cons_succ, List.getElem_cons_zero, Act.put, List.setIfInBounds_toArray, List.set_cons_zero, List.set_cons_succ]
    refine wpAnyH_take (i := 11) (v := ?vx10) rfl (by kernel_rfl) (by kernel_rfl) (by kernel_rfl) (fun _ _ _ h => h) (Or.inl ⟨by rfl, ?yx10⟩) HSu2.out ?rx10
    case yx10 => (intro w' hSw; clear hSw; go_simp; try with_reducible rfl)
    simp only [List.getElem_toArray, List.getElem_cons_succ, List.getElem_cons_zero, Act.put, List.setIfInBounds_toArray, List.set_cons_zero, List.set_cons_succ]
    refine wpAnyH_take (i := 12) (v := ?vx11) rfl (by kernel_rfl) (by kernel_rfl) (by kernel_rfl) (fun _ _ _ h => h) (Or.inl ⟨by rfl, ?yx11⟩) HSu2.out ?rx11
    case yx11 => (intro w' hSw; clear hSw; go_simp; try with_reducible rfl)
    simp only [List.getElem_toArray, List.getElem_cons_succ, List.getElem_cons_zero, Act.put, List.setIfInBounds_toArray, List.set_cons_zero, List.set_cons_succ]
    refine wpAnyH_take (i := 13) (v := ?vx12) rfl (by kernel_rfl) (by kernel_rfl) (by kernel_rfl) (fun _ _ _ h => h) (Or.inl ⟨by rfl, ?yx12⟩) HSu2.out ?rx12
    case yx12 => (intro w' hSw; clear hSw; go_simp; try with_reducible rfl)
    simp only [List.getElem_toArray, List.getElem_cons_succ, List.getElem_cons_zero, Act.put, List.setIfInBounds_toArray, List.set_cons_zero, List.set_cons_succ]
    refine wpAnyH_take (i := 14) (v := ?vx13) rfl (by kernel_rfl) (by kernel_rfl) (by kernel_rfl) (fun _ _ _ h => h) (Or.inl ⟨by rfl, ?yx13⟩) HSu2.out ?rx13
    case yx13 => (intro w' hSw; clear hSw; go_simp; try with_reducible rfl)
    simp only [List.getElem_toArray, List.getElem_cons_succ, List.getElem_cons_zero, Act.put, List.setIfInBounds_toArray, List.set_cons_zero, List.set_cons_succ]
    refine wpAnyH_take (i := 17) (v := ?vx14) rfl (by kernel_rfl) (by kernel_rfl) (by kernel_rfl) (fun _ _ _ h => h) (Or.inl ⟨by rfl, ?yx14⟩) HSu2.out ?rx14
    case yx14 => (intro w' hSw; clear hSw; go_simp; try with_reducible rfl)
    simp only [List.getElem_toArray, List.getElem_cons_succ, List.getElem_cons_zero, Act.put, List.setIfInBounds_toArray, List.set_cons_zero, List.set_cons_succ]
    refine wpAnyH_take (i := 18) (v := ?vx15) rfl (by kernel_rfl) (by kernel_rfl) (by kernel_rfl) (fun _ _ _ h => h) (Or.inl ⟨by rfl, ?yx15⟩) HSu2.out ?rx15
    case yx15 => (intro w' hSw; clear hSw; go_simp; try with_reducible rfl)
    simp only [List.getElem_toArray, List.getElem_cons_succ, List.getElem_cons_zero, Act.put, List.setIfInBounds_toArray, List.set_cons_zero, List.set_cons_succ]
    refine wpAnyH_ready (rs := [15]) (by kernel_rfl) (by simp) ?_
    refine AllReadyH.cons rfl (fun K' hK => ?_) AllReadyH.nil
    simp only [List.getElem_toArray, List.getElem_cons_succ, List.getElem_cons_zero]
    go_simp
    refine (interim_any A B a b n1 c1 n2 c2 _ (HTd.out.at HU_wd_u2.out) (HAd.out.below HU_wd_u2.out) (HBd.out.below HU_wd_u2.out) (by omega) (by omega)).mono ?_
    rintro e' u3 ⟨X3, m3, d3, rfl, hX, hb⟩
    have HU_u2_u3 := Lib.hid hb
    rw [HE1.out] at hX
    have HX3 := Lib.hid hX.any
    clear hX
    have HU_u1_u3 := Lib.hid (HU_u1_u2.out.trans (HU_u2_u3.out.mono HU_u1_u2.out.size))
    have HU_wd_u3 := Lib.hid (HU_wd_u2.out.trans (HU_u2_u3.out.mono HU_wd_u2.out.size))
    refine hK.out _ _ HU_u2_u3.out (fun _ => ?_)
    clear hK
    try simp only [List.getElem_toArray, List.getElem_cons_succ, List.getElem_cons_zero, Act.put, List.setIfInBounds_toArray, List.set_cons_zero, List.set_cons_succ]
    have HSu3 : Hid (Below u3.heap.size u3 u3) := Lib.hid (Below.refl _ _)
    refine Sha.wpAnyH_more (S' := fun W => Below u3.heap.size u3 W) (fun W h => HU_u2_u3.out.trans (h.mono HU_u2_u3.out.size)) _ _ _ _ ?_
    refine wpAnyH_take (i := 16) (v := ?vx16) rfl (by kernel_rfl) (by kernel_rfl) (by kernel_rfl) (fun _ _ _ h => h) (Or.inl ⟨by rfl, ?yx16⟩) HSu3.out ?rx16
    case yx16 => (intro w' hSw; have hq_u3 : Below u3.heap.size u3 w' := hSw; have hq_u2 : Below u2.heap.size u2 w' := HU_u2_u3.out.trans (hSw.mono HU_u2_u3.out.size); have hq_u1 : Below u1.heap.size u1 w' := HU_u1_u3.out.trans (hSw.mono HU_u1_u3.out.size); have hq_wd : Below wd.heap.size wd w' := HU_wd_u3.out.trans (hSw.mono HU_wd_u3.out.size); have hq := hq_wd; have cc := (HX3.out.below hq_u3).conv; rw [HS1.out] at cc; clear hSw; try clear hq hq_wd hq_u1 hq_u2 hq_u3; go_simp; try with_reducible rfl)
    simp only [List.getElem_toArray, List.getElem_cons_succ, List.getElem_cons_zero, Act.put, List.setIfInBounds_toArray, List.set_cons_zero, List.set_cons_succ]
    refine wpAnyH_ready (rs := [19]) (by kernel_rfl) (by simp) ?_
    refine AllReadyH.cons rfl (fun K' hK => ?_) AllReadyH.nil
    simp only [List.getElem_toArray, List.getElem_cons_succ, List.getElem_cons_zero]
    go_simp
    refine (rinterim_any A B a b n1 c1 n2 c2 _ (HAd.out.below HU_wd_u3.out) (HBd.out.below HU_wd_u3.out) (by omega) (by omega)).mono ?_
    rintro e' u4 ⟨X4, m4, d4, rfl, hX, hb⟩
    have HU_u3_u4 := Lib.hid hb
    rw [HE1.out] at hX
    have HX4 := Lib.hid hX.any
    clear hX
    have HU_u2_u4 := Lib.hid (HU_u2_u3.out.trans (HU_u3_u4.out.mono HU_u2_u3.out.size))
    have HU_u1_u4 := Lib.hid (HU_u1_u3.out.trans (HU_u3_u4.out.mono HU_u1_u3.out.size))
    have HU_wd_u4 := Lib.hid (HU_wd_u3.out.trans (HU_u3_u4.out.mono HU_wd_u3.out.size))
    refine hK.out _ _ HU_u3_u4.out (fun _ => ?_)
    clear hK
    try simp only [List.getElem_toArray, List.getElem_cons_succ, List.getElem_cons_zero, Act.put, List.setIfInBounds_toArray, List.set_cons_zero, List.set_cons_succ]
    have HSu4 : Hid (Below u4.heap.size u4 u4) := Lib.hid (Below.refl _ _)
    refine Sha.wpAnyH_more (S' := fun W => Below u4.heap.size u4 W) (fun W h => HU_u3_u4.out.trans (h.mono HU_u3_u4.out.size)) _ _ _ _ ?_
    refine wpAnyH_take (i := 20) (v := ?vx17) rfl (by kernel_rfl) (by kernel_rfl) (by kernel_rfl) (fun _ _ _ h => h) (Or.inl ⟨by rfl, ?yx17⟩) HSu4.out ?rx17
    case yx17 => (intro w' hSw; have hq_u4 : Below u4.heap.size u4 w' := hSw; have hq_u3 : Below u3.heap.size u3 w' := HU_u3_u4.out.trans (hSw.mono HU_u3_u4.out.size); have hq_u2 : Below u2.heap.size u2 w' := HU_u2_u4.out.trans (hSw.mono HU_u2_u4.out.size); have hq_u1 : Below u1.heap.size u1 w' := HU_u1_u4.out.trans (hSw.mono HU_u1_u4.out.size); have hq_wd : Below wd.heap.size wd w' := HU_wd_u4.out.trans (hSw.mono HU_wd_u4.out.size); have hq := hq_wd; have cc := (HX4.out.below hq_u4).conv; rw [HS1.out] at cc; clear hSw; try clear hq hq_wd hq_u1 hq_u2 hq_u3 hq_u4; go_simp; try with_reducible rfl)
    simp only [List.getElem_toArray, List.getElem_cons_succ, List.getElem_cons_zero, Act.put, List.setIfInBounds_toArray, List.set_cons_zero, List.set_cons_succ]
    refine wpAnyH_take (i := 21) (v := ?vx18) rfl (by kernel_rfl) (by kernel_rfl) (by kernel_rfl) (fun _ _ _ h => h) (Or.inl ⟨by rfl, ?yx18⟩) HSu4.out ?rx18
    case yx18 => (intro w' hSw; clear hSw; go_simp; try with_reducible rfl)
    simp only [List.getElem_toArray, List.getElem_cons_succ, List.getElem_cons_zero, Act.put, List.setIfInBounds_toArray, List.set_cons_zero, List.set_cons_succ]
    refine wpAnyH_take (i := 22) (v := ?vx19) rfl (by kernel_rfl) (by kernel_rfl) (by kernel_rfl) (fun _ _ _ h => h) (Or.inl ⟨by rfl, ?yx19⟩) HSu4.out ?rx19
    case yx19 => (intro w' hSw; clear hSw; go_simp; try with_reducible rfl)
    simp only [List.getElem_toArray, List.getElem_cons_succ, List.getElem_cons_zero, Act.put, List.setIfInBounds_toArray, List.set_cons_zero, List.set_cons_succ]
    refine wpAnyH_take (i := 23) (v := ?vx20) rfl (by kernel_rfl) (by kernel_rfl) (by kernel_rfl) (fun _ _ _ h => h) (Or.inl ⟨by rfl, ?yx20⟩) HSu4.out ?rx20
    case yx20 => (intro w' hSw; clear hSw; go_simp; try with_reducible rfl)
    simp only [List.getElem_toArray, List.getElem_cons_succ, List.getElem_cons_zero, Act.put, List.setIfInBounds_toArray, List.set_cons_zero, List.set_cons_succ]
    refine wpAnyH_take (i := 24) (v := ?vx21) rfl (by kernel_rfl) (by kernel_rfl) (by kernel_rfl) (fun _ _ _ h => h) (Or.inl ⟨by rfl, ?yx21⟩) HSu4.out ?rx21
    case yx21 => (intro w' hSw; have hq_u4 : Below u4.heap.size u4 w' := hSw; have hq_u3 : Below u3.heap.size u3 w' := HU_u3_u4.out.trans (hSw.mono HU_u3_u4.out.size); have hq_u2 : Below u2.heap.size u2 w' := HU_u2_u4.out.trans (hSw.mono HU_u2_u4.out.size); have hq_u1 : Below u1.heap.size u1 w' := HU_u1_u4.out.trans (hSw.mono HU_u1_u4.out.size); have hq_wd : Below wd.heap.size wd w' := HU_wd_u4.out.trans (hSw.mono HU_wd_u4.out.size); have hq := hq_wd; obtain ⟨s0, s1, s2, s3, s4, s5, s6⟩ := (HRd.out.below hq_wd HRL.out).cs; clear hSw; try clear hq hq_wd hq_u1 hq_u2 hq_u3 hq_u4; go_simp; try with_reducible rfl)
    simp only [List.getElem_toArray, List.getElem_cons_succ, List.getElem_cons_zero, Act.put, List.setIfInBounds_toArray, List.set_cons_zero, List.set_cons_succ]
    refine wpAnyH_take (i := 25) (v := ?vx22) rfl (by kernel_rfl) (by kernel_rfl) (by kernel_rfl) (fun _ _ _ h => h) (Or.inl ⟨by rfl, ?yx22⟩) HSu4.out ?rx22
    case yx22 => (intro w' hSw; clear hSw; go_simp; try with_reducible rfl)
    simp only [List.getElem_toArray, List.getElem_cons_succ, List.getElem_cons_zero, Act.put, List.setIfInBounds_toArray, List.set_cons_zero, List.set_cons_succ]
    refine wpAnyH_take (i := 26) (v := ?vx23) rfl (by kernel_rfl) (by kernel_rfl) (by kernel_rfl) (fun _ _ _ h => h) (Or.inl ⟨by rfl, ?yx23⟩) HSu4.out ?rx23
    case yx23 => (intro w' hSw; clear hSw; go_simp; try with_reducible rfl)
    simp only [List.getElem_toArray, List.getElem_cons_succ, List.getElem_cons_zero, Act.put, List.setIfInBounds_toArray, List.set_cons_zero, List.set_cons_succ]
    refine wpAnyH_take (i := 27) (v := ?vx24) rfl (by kernel_rfl) (by kernel_rfl) (by kernel_rfl) (fun _ _ _ h => h) (Or.inl ⟨by rfl, ?yx24⟩) HSu4.out ?rx24
    case yx24 => (intro w' hSw; clear hSw; go_simp; try with_reducible rfl)
    simp only [List.getElem_toArray, List.getElem_cons_succ, List.getElem_cons_zero, Act.put, List.setIfInBounds_toArray, List.set_cons_zero, List.set_cons_succ]
    refine wpAnyH_take (i := 30) (v := ?vx25) rfl (by kernel_rfl) (by kernel_rfl) (by kernel_rfl) (fun _ _ _ h => h) (Or.inl ⟨by rfl, ?yx25⟩) HSu4.out ?rx25
    case yx25 => (intro w' hSw; have hq_u4 : Below u4.heap.size u4 w' := hSw; have hq_u3 : Below u3.heap.size u3 w' := HU_u3_u4.out.trans (hSw.mono HU_u3_u4.out.size); have hq_u2 : Below u2.heap.size u2 w' := HU_u2_u4.out.trans (hSw.mono HU_u2_u4.out.size); have hq_u1 : Below u1.heap.size u1 w' := HU_u1_u4.out.trans (hSw.mono HU_u1_u4.out.size); have hq_wd : Below wd.heap.size wd w' := HU_wd_u4.out.trans (hSw.mono HU_wd_u4.out.size); have hq := hq_wd; obtain ⟨s0, s1, s2, s3, s4, s5, s6⟩ := (HRd.out.below hq_wd HRL.out).cs; clear hSw; try clear hq hq_wd hq_u1 hq_u2 hq_u3 hq_u4; go_simp; try with_reducible rfl)
    simp only [List.getElem_toArray, List.getElem_cons_succ, List.getElem_cons_zero, Act.put, List.setIfInBounds_toArray, List.set_cons_zero, List.set_cons_succ]
    refine wpAnyH_take (i := 31) (v := ?vx26) rfl (by kernel_rfl) (by kernel_rfl) (by kernel_rfl) (fun _ _ _ h => h) (Or.inl ⟨by rfl, ?yx26⟩) HSu4.out ?rx26
    case yx26 => (intro w' hSw; clear hSw; go_simp; try with_reducible rfl)
    simp only [List.getElem_toArray, List.getElem_cons_succ, List.getElem_cons_zero, Act.put, List.setIfInBounds_toArray, List.set_cons_zero, List.set_cons_succ]
    refine wpAnyH_take (i := 32) (v := ?vx27) rfl (by kernel_rfl) (by kernel_rfl) (by kernel_rfl) (fun _ _ _ h => h) (Or.inl ⟨by rfl, ?yx27⟩) HSu4.out ?rx27
    case yx27 => (intro w' hSw; clear hSw; go_simp; try with_reducible rfl)
    simp only [List.getElem_toArray, List.getElem_cons_succ, List.getElem_cons_zero, Act.put, List.setIfInBounds_toArray, List.set_cons_zero, List.set_cons_succ]
    refine wpAnyH_take (i := 33) (v := ?vx28) rfl (by kernel_rfl) (by kernel_rfl) (by kernel_rfl) (fun _ _ _ h => h) (Or.inl ⟨by rfl, ?yx28⟩) HSu4.out ?rx28
    case yx28 => (intro w' hSw; clear hSw; go_simp; try with_reducible rfl)
    simp only [List.getElem_toArray, List.getElem_cons_succ, List.getElem_cons_zero, Act.put, List.setIfInBounds_toArray, List.set_cons_zero, List.set_cons_succ]
    refine wpAnyH_ready (rs := [28]) (by kernel_rfl) (by simp) ?_
    refine AllReadyH.cons rfl (fun K' hK => ?_) AllReadyH.nil
    simp only [List.getElem_toArray, List.getElem_cons_succ, List.getElem_cons_zero]
    go_simp
    refine (export_any q A key l a n1 c1 n _ (HTd.out.at HU_wd_u4.out) (HKd.out.below HU_wd_u4.out) (HAd.out.below HU_wd_u4.out) (by omega) (by omega)).mono ?_
    rintro e' u5 ⟨X5, m5, d5, rfl, hX, hb⟩
    have HU_u4_u5 := Lib.hid hb
    rw [HE2.out] at hX
    have HX5 := Lib.hid hX.any
    clear hX
    have HU_u3_u5 := Lib.hid (HU_u3_u4.out.trans (HU_u4_u5.out.mono HU_u3_u4.out.size))
    have HU_u2_u5 := Lib.hid (HU_u2_u4.out.trans (HU_u4_u5.out.mono HU_u2_u4.out.size))
    have HU_u1_u5 := Lib.hid (HU_u1_u4.out.trans (HU_u4_u5.out.mono HU_u1_u4.out.size))
    have HU_wd_u5 := Lib.hid (HU_wd_u4.out.trans (HU_u4_u5.out.mono HU_wd_u4.out.size))
    refine hK.out _ _ HU_u4_u5.out (fun _ => ?_)
    clear hK
    try simp only [List.getElem_toArray, List.getElem_cons_succ, List.getElem_cons_zero, Act.put, List.setIfInBounds_toArray, List.set_cons_zero, List.set_cons_succ]
    have HSu5 : Hid (Below u5.heap.size u5 u5) := Lib.hid (Below.refl _ _)
    refine Sha.wpAnyH_more (S' := fun W => Below u5.heap.size u5 W) (fun W h => HU_u4_u5.out.trans (h.mono HU_u4_u5.out.size)) _ _ _ _ ?_
    refine wpAnyH_take (i := 29) (v := ?vx29) rfl (by kernel_rfl) (by kernel_rfl) (by kernel_rfl) (fun _ _ _ h => h) (Or.inl ⟨by rfl, ?yx29⟩) HSu5.out ?rx29
    case yx29 => (intro w' hSw; have hq_u5 : Below u5.heap.size u5 w' := hSw; have hq_u4 : Below u4.heap.size u4 w' := HU_u4_u5.out.trans (hSw.mono HU_u4_u5.out.size); have hq_u3 : Below u3.heap.size u3 w' := HU_u3_u5.out.trans (hSw.mono HU_u3_u5.out.size); have hq_u2 : Below u2.heap.size u2 w' := HU_u2_u5.out.trans (hSw.mono HU_u2_u5.out.size); have hq_u1 : Below u1.heap.size u1 w' := HU_u1_u5.out.trans (hSw.mono HU_u1_u5.out.size); have hq_wd : Below wd.heap.size wd w' := HU_wd_u5.out.trans (hSw.mono HU_wd_u5.out.size); have hq := hq_wd; have cc := (HX5.out.below hq_u5).conv; rw [HS2.out] at cc; clear hSw; try clear hq hq_wd hq_u1 hq_u2 hq_u3 hq_u4 hq_u5; go_simp; try with_reducible rfl)
    simp only [List.getElem_toArray, List.getElem_cons_succ, List.getElem_cons_zero, Act.put, List.setIfInBounds_toArray, List.set_cons_zero, List.set_cons_succ]
    refine wpAnyH_ready (rs := [34]) (by kernel_rfl) (by simp) ?_
    refine AllReadyH.cons rfl (fun K' hK => ?_) AllReadyH.nil
    simp only [List.getElem_toArray, List.getElem_cons_succ, List.getElem_cons_zero]
    go_simp
    refine (rexport_any q A key l a n1 c1 n _ (HKd.out.below HU_wd_u5.out) (HAd.out.below HU_wd_u5.out) (by omega) (by omega)).mono ?_
    rintro e' u6 ⟨X6, m6, d6, rfl, hX, hb⟩
    have HU_u5_u6 := Lib.hid hb
    rw [HE2.out] at hX
    have HX6 := Lib.hid hX.any
    clear hX
    have HU_u4_u6 := Lib.hid (HU_u4_u5.out.trans (HU_u5_u6.out.mono HU_u4_u5.out.size))
    have HU_u3_u6 := Lib.hid (HU_u3_u5.out.trans (HU_u5_u6.out.mono HU_u3_u5.out.size))
    have HU_u2_u6 := Lib.hid (HU_u2_u5.out.trans (HU_u5_u6.out.mono HU_u2_u5.out.size))
    have HU_u1_u6 := Lib.hid (HU_u1_u5.out.trans (HU_u5_u6.out.mono HU_u1_u5.out.size))
    have HU_wd_u6 := Lib.hid (HU_wd_u5.out.trans (HU_u5_u6.out.mono HU_wd_u5.out.size))
    refine hK.out _ _ HU_u5_u6.out (fun _ => ?_)
    clear hK
    try simp only [List.getElem_toArray, List.getElem_cons_succ, List.getElem_cons_zero, Act.put, List.setIfInBounds_toArray, List.set_cons_zero, List.set_cons_succ]
    have HSu6 : Hid (Below u6.heap.size u6 u6) := Lib.hid (Below.refl _ _)
    refine Sha.wpAnyH_more (S' := fun W => Below u6.heap.size u6 W) (fun W h => HU_u5_u6.out.trans (h.mono HU_u5_u6.out.size)) _ _ _ _ ?_
    refine wpAnyH_take (i := 35) (v := ?vx30) rfl (by kernel_rfl) (by kernel_rfl) (by kernel_rfl) (fun _ _ _ h => h) (Or.inl ⟨by rfl, ?yx30⟩) HSu6.out ?rx30
    case yx30 => (intro w' hSw; have hq_u6 : Below u6.heap.size u6 w' := hSw; have hq_u5 : Below u5.heap.size u5 w' := HU_u5_u6.out.trans (hSw.mono HU_u5_u6.out.size); have hq_u4 : Below u4.heap.size u4 w' := HU_u4_u6.out.trans (hSw.mono HU_u4_u6.out.size); have hq_u3 : Below u3.heap.size u3 w' := HU_u3_u6.out.trans (hSw.mono HU_u3_u6.out.size); have hq_u2 : Below u2.heap.size u2 w' := HU_u2_u6.out.trans (hSw.mono HU_u2_u6.out.size); have hq_u1 : Below u1.heap.size u1 w' := HU_u1_u6.out.trans (hSw.mono HU_u1_u6.out.size); have hq_wd : Below wd.heap.size wd w' := HU_wd_u6.out.trans (hSw.mono HU_wd_u6.out.size); have hq := hq_wd; have cc := (HX6.out.below hq_u6).conv; rw [HS2.out] at cc; clear hSw; try clear hq hq_wd hq_u1 hq_u2 hq_u3 hq_u4 hq_u5 hq_u6; go_simp; try with_reducible rfl)
    simp only [List.getElem_toArray, List.getElem_cons_succ, List.getElem_cons_zero, Act.put, List.setIfInBounds_toArray, List.set_cons_zero, List.set_cons_succ]
    refine wpAnyH_take (i := 36) (v := ?vx31) rfl (by kernel_rfl) (by kernel_rfl) (by kernel_rfl) (fun _ _ _ h => h) (Or.inl ⟨by rfl, ?yx31⟩) HSu6.out ?rx31
    case yx31 => (intro w' hSw; clear hSw; go_simp; try with_reducible rfl)
    simp only [List.getElem_toArray, List.getElem_cons_succ, List.getElem_cons_zero, Act.put, List.setIfInBounds_toArray, List.set_cons_zero, List.set_cons_succ]
    refine wpAnyH_take (i := 37) (v := ?vx32) rfl (by kernel_rfl) (by kernel_rfl) (by kernel_rfl) (fun _ _ _ h => h) (Or.inl ⟨by rfl, ?yx32⟩) HSu6.out ?rx32
    case yx32 => (intro w' hSw; clear hSw; go_simp; try with_reducible rfl)
    simp only [List.getElem_toArray, List.getElem_cons_succ, List.getElem_cons_zero, Act.put, List.setIfInBounds_toArray, List.set_cons_zero, List.set_cons_succ]
    refine wpAnyH_take (i := 38) (v := ?vx33) rfl (by kernel_rfl) (by kernel_rfl) (by kernel_rfl) (fun _ _ _ h => h) (Or.inl ⟨by rfl, ?yx33⟩) HSu6.out ?rx33
    case yx33 => (intro w' hSw; clear hSw; go_simp; try with_reducible rfl)
    simp only [List.getElem_toArray, List.getElem_cons_succ, List.getElem_cons_zero, Act.put, List.setIfInBounds_toArray, List.set_cons_zero, List.set_cons_succ]
    refine wpAnyH_done (by kernel_rfl) ?_ _
    change Exit.then _ _ Exit.normal _ _
    go_wp2
    go_ret
    exact ⟨rfl, HBf.out.trans (HU_wd_u6.out.mono HBf.out.size)⟩
end Go.Proofs.YtikafijdfgkgkaaDoor.Sc
