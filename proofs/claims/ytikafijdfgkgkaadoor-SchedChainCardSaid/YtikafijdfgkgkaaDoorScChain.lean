/- SchedChain: the walk. Written by tools/mk_scchain.py. -/
import Derived.Test.YtikafijdfgkgkaaDoorScWalkD
namespace Go.Proofs.YtikafijdfgkgkaaDoor.Sc
set_option linter.all false
open Go.RowKit
open Wr (Txt TxtL Any New bcells gt)

set_option maxHeartbeats 8000000 in
set_option maxRecDepth 100000 in
theorem schedChain_walk (A : Option Addr) (j : List Nat) (n1 c1 : Nat) (C : Option Addr) (x : List Nat) (n2 c2 : Nat) (w : World) (hT : Tabs w) (hA : Txt Any w A n1 c1 j) (hC : Txt Any w C n2 c2 x) :
    Calls Tryd.prog 6 #[.slice A n1 c1, .slice C n2 c2] w fun e w' => e = .returned (.bool true) ∧ Below w.heap.size w w' := by
  have HT := Lib.hid hT; have HJ := Lib.hid hA; have HX := Lib.hid hC
  clear hT hA hC
  go_enter Tryd.func6, Tryd.ntmps6
  go_wp2_with fail
  refine (head_any _ HT.out).mono ?_
  rintro e' w1 ⟨rfl, hb⟩
  have B1 := Lib.hid hb
  clear hb
  by_cases h1 : 20000 < n1
  case pos =>
    go_wp2_with fail
    refine (great_yes A n1 c1 _ h1).mono ?_
    rintro e' w2 ⟨rfl, rfl⟩
    go_wp2
    go_ret
    exact ⟨rfl, B1.out⟩
  go_wp2_with fail
  refine (great_no A n1 c1 _ (by omega)).mono ?_
  rintro e' w2 ⟨rfl, rfl⟩
  by_cases h2 : 20000 < n2
  case pos =>
    go_wp2_with fail
    refine (great_yes C n2 c2 _ h2).mono ?_
    rintro e' w2 ⟨rfl, rfl⟩
    go_wp2
    go_ret
    exact ⟨rfl, B1.out⟩
  go_wp2_with fail
  refine (great_no C n2 c2 _ (by omega)).mono ?_
  rintro e' w2 ⟨rfl, rfl⟩
  go_wp2_with fail
  refine (derive_any A C j x n1 c1 n2 c2 w1 (HT.out.at B1.out) (HJ.out.below B1.out) (HX.out.below B1.out) (by omega) (by omega)).mono ?_
  rintro e' w2 ⟨⟨P0, p0, u0, P1, p1, u1, P2, p2, u2, P3, p3, u3, P4, p4, u4, P5, p5, u5, P6, p6, u6⟩, rfl, hE, hb⟩
  dsimp only
  have B2 := Lib.hid (B1.out.trans (hb.mono B1.out.size))
  have hE1 := hE.any.t1
  dsimp only at hE1
  rw [ep_sec] at hE1
  obtain rfl : p1 = 32 := by rw [← hE1.2.1]; exact lb_len (by decide) (sh_len _)
  obtain ⟨sc, hsc⟩ : ∃ s, sec j x = s := ⟨_, rfl⟩
  rw [hsc] at hE1
  have hE2 := hE.any.t2
  dsimp only at hE2
  rw [ep_enc, hsc] at hE2
  obtain ⟨K2, hk⟩ : ∃ K, Sha.lab sc ⟨#[101, 110, 99, 114, 121, 112, 116]⟩ [] 32 = K := ⟨_, rfl⟩
  rw [show lb sc ⟨#[101, 110, 99, 114, 121, 112, 116]⟩ [] = K2 from hk] at hE2
  have HK2 := Lib.hid hk
  clear hk
  obtain ⟨S2, hs⟩ : ∃ S, Wr.txt K2 = S := ⟨_, rfl⟩
  have HS2 := Lib.hid hs
  clear hs
  have hE3 := hE.any.t3
  dsimp only at hE3
  rw [ep_exp, hsc] at hE3
  obtain ⟨K3, hk⟩ : ∃ K, Sha.lab sc ⟨#[101, 120, 112, 111, 114, 116]⟩ [] 32 = K := ⟨_, rfl⟩
  rw [show lb sc ⟨#[101, 120, 112, 111, 114, 116]⟩ [] = K3 from hk] at hE3
  have HK3 := Lib.hid hk
  clear hk
  obtain ⟨S3, hs⟩ : ∃ S, Wr.txt K3 = S := ⟨_, rfl⟩
  have HS3 := Lib.hid hs
  clear hs
  have hE4 := hE.any.t4
  dsimp only at hE4
  rw [ep_con, hsc] at hE4
  obtain ⟨K4, hk⟩ : ∃ K, Sha.lab sc ⟨#[99, 111, 110, 102, 105, 114, 109]⟩ [] 32 = K := ⟨_, rfl⟩
  rw [show lb sc ⟨#[99, 111, 110, 102, 105, 114, 109]⟩ [] = K4 from hk] at hE4
  have HK4 := Lib.hid hk
  clear hk
  obtain ⟨S4, hs⟩ : ∃ S, Wr.txt K4 = S := ⟨_, rfl⟩
  have HS4 := Lib.hid hs
  clear hs
  have hE5 := hE.any.t5
  dsimp only at hE5
  rw [ep_mem, hsc] at hE5
  obtain ⟨K5, hk⟩ : ∃ K, Sha.lab sc ⟨#[109, 101, 109, 98, 101, 114]⟩ [] 32 = K := ⟨_, rfl⟩
  rw [show lb sc ⟨#[109, 101, 109, 98, 101, 114]⟩ [] = K5 from hk] at hE5
  have HK5 := Lib.hid hk
  clear hk
  obtain ⟨S5, hs⟩ : ∃ S, Wr.txt K5 = S := ⟨_, rfl⟩
  have HS5 := Lib.hid hs
  clear hs
  have hE6 := hE.any.t6
  dsimp only at hE6
  rw [ep_ini, hsc] at hE6
  obtain ⟨K6, hk⟩ : ∃ K, Sha.lab sc ⟨#[105, 110, 105, 116]⟩ [] 32 = K := ⟨_, rfl⟩
  rw [show lb sc ⟨#[105, 110, 105, 116]⟩ [] = K6 from hk] at hE6
  have HK6 := Lib.hid hk
  clear hk
  obtain ⟨S6, hs⟩ : ∃ S, Wr.txt K6 = S := ⟨_, rfl⟩
  have HS6 := Lib.hid hs
  clear hs
  have b0 := (Below.refl w2.heap.size w2).alloc (Nat.le_refl _) (.cells #[.slice P0 p0 u0, .slice P1 32 u1, .slice P2 p2 u2, .slice P3 p3 u3, .slice P4 p4 u4, .slice P5 p5 u5, .slice P6 p6 u6] 28)
  have r0 := Row7.new w2 (.slice P0 p0 u0) (.slice P1 32 u1) (.slice P2 p2 u2) (.slice P3 p3 u3) (.slice P4 p4 u4) (.slice P5 p5 u5) (.slice P6 p6 u6)
  obtain ⟨w3, hw3⟩ : ∃ W, w2.alloc (.cells #[.slice P0 p0 u0, .slice P1 32 u1, .slice P2 p2 u2, .slice P3 p3 u3, .slice P4 p4 u4, .slice P5 p5 u5, .slice P6 p6 u6] 28) = W := ⟨_, rfl⟩
  rw [hw3] at b0 r0
  have HB3 := Lib.hid (B2.out.trans (b0.mono B2.out.size))
  have HBd : Hid (Below w.heap.size w w3.drew) := Lib.hid HB3.out.drew
  have HTdwa : Hid (Tabs w3.drew) := Lib.hid (HT.out.at HBd.out)
  have HRwa : Hid (Row7 w3.drew w2.heap.size _ _ _ _ _ _ _) := Lib.hid r0
  have HRLwa : Hid (w2.heap.size < w3.drew.heap.size) := Lib.hid r0.lt
  have Y1wa : Hid (Txt Any w3.drew P1 32 u1 sc) := Lib.hid (hE1.below b0.drew)
  have Y2wa : Hid (Txt Any w3.drew P2 p2 u2 K2) := Lib.hid (hE2.below b0.drew)
  have Y3wa : Hid (Txt Any w3.drew P3 p3 u3 K3) := Lib.hid (hE3.below b0.drew)
  have Y4wa : Hid (Txt Any w3.drew P4 p4 u4 K4) := Lib.hid (hE4.below b0.drew)
  have Y5wa : Hid (Txt Any w3.drew P5 p5 u5 K5) := Lib.hid (hE5.below b0.drew)
  have Y6wa : Hid (Txt Any w3.drew P6 p6 u6 K6) := Lib.hid (hE6.below b0.drew)
  clear hE hb b0 r0 HT HJ HX B1 B2 hsc hE1 hE2 hE3 hE4 hE5 hE6
  obtain ⟨g2, hg2⟩ : ∃ g, w2.heap.size = g := ⟨_, rfl⟩
  rw [hg2] at HRwa HRLwa
  go_wp2_with fail
  try rw [hw3]
  try rw [hg2]
  clear hw3 hg2
  try simp only [Act.put]
  refine Wr.region_calm ?_
  refine wp_region_any (by kernel_rfl) ?_
  change wpAny _ _ _ _ _ _ _ (World.drew w3)
  generalize World.drew w3 = wa at *
  have HSwa : Hid (Below wa.heap.size wa wa) := Lib.hid (Below.refl _ _)
  refine wpAny_of_held (S := fun W => Below wa.heap.size wa W) _ _ _ _ ?_
  refine wpAnyH_take (i := 0) (v := ?ve1) rfl (by kernel_rfl) (by kernel_rfl) (by kernel_rfl) (fun _ _ _ h => h) (Or.inl ⟨by rfl, ?ye1⟩) HSwa.out ?re1
  case ye1 => (intro w' hSw; clear hSw; go_simp; try with_reducible rfl)
  simp only [List.getElem_toArray, List.getElem_cons_succ, List.getElem_cons_zero, Act.put, List.setIfInBounds_toArray, List.set_cons_zero, List.set_cons_succ]
  refine wpAnyH_take (i := 1) (v := ?ve2) rfl (by kernel_rfl) (by kernel_rfl) (by kernel_rfl) (fun _ _ _ h => h) (Or.inl ⟨by rfl, ?ye2⟩) HSwa.out ?re2
  case ye2 => (intro w' hSw; have hq_wa : Below wa.heap.size wa w' := hSw; have hq := hq_wa; obtain ⟨s0, s1, s2, s3, s4, s5, s6⟩ := (HRwa.out.below hq_wa HRLwa.out).cs; clear hSw; try clear hq hq_wa; go_simp; try with_reducible rfl)
  simp only [List.getElem_toArray, List.getElem_cons_succ, List.getElem_cons_zero, Act.put, List.setIfInBounds_toArray, List.set_cons_zero, List.set_cons_succ]
  refine wpAnyH_take (i := 2) (v := ?ve3) rfl (by kernel_rfl) (by kernel_rfl) (by kernel_rfl) (fun _ _ _ h => h) (Or.inl ⟨by rfl, ?ye3⟩) HSwa.out ?re3
  case ye3 => (intro w' hSw; have hq_wa : Below wa.heap.size wa w' := hSw; have hq := hq_wa; have cc := (Y2wa.out.below hq_wa).conv; rw [HS2.out] at cc; clear hSw; try clear hq hq_wa; go_simp; try with_reducible rfl)
  simp only [List.getElem_toArray, List.getElem_cons_succ, List.getElem_cons_zero, Act.put, List.setIfInBounds_toArray, List.set_cons_zero, List.set_cons_succ]
  refine wpAnyH_take (i := 3) (v := ?ve4) rfl (by kernel_rfl) (by kernel_rfl) (by kernel_rfl) (fun _ _ _ h => h) (Or.inl ⟨by rfl, ?ye4⟩) HSwa.out ?re4
  case ye4 => (intro w' hSw; clear hSw; go_simp; try with_reducible rfl)
  simp only [List.getElem_toArray, List.getElem_cons_succ, List.getElem_cons_zero, Act.put, List.setIfInBounds_toArray, List.set_cons_zero, List.set_cons_succ]
  refine wpAnyH_take (i := 4) (v := ?ve5) rfl (by kernel_rfl) (by kernel_rfl) (by kernel_rfl) (fun _ _ _ h => h) (Or.inl ⟨by rfl, ?ye5⟩) HSwa.out ?re5
  case ye5 => (intro w' hSw; have hq_wa : Below wa.heap.size wa w' := hSw; have hq := hq_wa; obtain ⟨s0, s1, s2, s3, s4, s5, s6⟩ := (HRwa.out.below hq_wa HRLwa.out).cs; clear hSw; try clear hq hq_wa; go_simp; try with_reducible rfl)
  simp only [List.getElem_toArray, List.getElem_cons_succ, List.getElem_cons_zero, Act.put, List.setIfInBounds_toArray, List.set_cons_zero, List.set_cons_succ]
  refine wpAnyH_ready (rs := [5]) (by kernel_rfl) (by simp) ?_
  refine AllReadyH.cons rfl (fun K' hK => ?_) AllReadyH.nil
  simp only [List.getElem_toArray, List.getElem_cons_succ, List.getElem_cons_zero]
  go_simp
  refine (label_any ⟨#[101, 110, 99, 114, 121, 112, 116]⟩ P1 none sc [] 32 u1 0 0 32 _ ((HTdwa.out.at (Below.refl _ _))) (Y1wa.out.below (Below.refl _ _)) (by omega) (Txt.nil _ _)).mono ?_
  rintro e' wau2 ⟨L2, l2, zc2, rfl, hX, hb⟩
  have HU_wa_wau2 := Lib.hid hb
  rw [HK2.out] at hX
  have HL2 := Lib.hid hX.any
  clear hX
  refine hK.out _ _ HU_wa_wau2.out (fun _ => ?_)
  clear hK
  try simp only [List.getElem_toArray, List.getElem_cons_succ, List.getElem_cons_zero, Act.put, List.setIfInBounds_toArray, List.set_cons_zero, List.set_cons_succ]
  have HSwau2 : Hid (Below wau2.heap.size wau2 wau2) := Lib.hid (Below.refl _ _)
  refine Sha.wpAnyH_more (S' := fun W => Below wau2.heap.size wau2 W) (fun W h => HU_wa_wau2.out.trans (h.mono HU_wa_wau2.out.size)) _ _ _ _ ?_
  refine wpAnyH_take (i := 6) (v := ?ve6) rfl (by kernel_rfl) (by kernel_rfl) (by kernel_rfl) (fun _ _ _ h => h) (Or.inl ⟨by rfl, ?ye6⟩) HSwau2.out ?re6
  case ye6 => (intro w' hSw; have hq_wau2 : Below wau2.heap.size wau2 w' := hSw; have hq_wa : Below wa.heap.size wa w' := HU_wa_wau2.out.trans (hSw.mono HU_wa_wau2.out.size); have hq := hq_wa; have cc := (HL2.out.below hq_wau2).conv; rw [HS2.out] at cc; clear hSw; try clear hq hq_wa hq_wau2; go_simp; try with_reducible rfl)
  simp only [List.getElem_toArray, List.getElem_cons_succ, List.getElem_cons_zero, Act.put, List.setIfInBounds_toArray, List.set_cons_zero, List.set_cons_succ]
  refine wpAnyH_take (i := 7) (v := ?ve7) rfl (by kernel_rfl) (by kernel_rfl) (by kernel_rfl) (fun _ _ _ h => h) (Or.inl ⟨by rfl, ?ye7⟩) HSwau2.out ?re7
  case ye7 => (intro w' hSw; clear hSw; go_simp; try with_reducible rfl)
  simp only [List.getElem_toArray, List.getElem_cons_succ, List.getElem_cons_zero, Act.put, List.setIfInBounds_toArray, List.set_cons_zero, List.set_cons_succ]
  refine wpAnyH_take (i := 8) (v := ?ve8) rfl (by kernel_rfl) (by kernel_rfl) (by kernel_rfl) (fun _ _ _ h => h) (Or.inl ⟨by rfl, ?ye8⟩) HSwau2.out ?re8
  case ye8 => (intro w' hSw; clear hSw; go_simp; try with_reducible rfl)
  simp only [List.getElem_toArray, List.getElem_cons_succ, List.getElem_cons_zero, Act.put, List.setIfInBounds_toArray, List.set_cons_zero, List.set_cons_succ]
  refine wpAnyH_take (i := 9) (v := ?ve9) rfl (by kernel_rfl) (by kernel_rfl) (by kernel_rfl) (fun _ _ _ h => h) (Or.inl ⟨by rfl, ?ye9⟩) HSwau2.out ?re9
  case ye9 => (intro w' hSw; clear hSw; go_simp; try with_reducible rfl)
  simp only [List.getElem_toArray, List.getElem_cons_succ, List.getElem_cons_zero, Act.put, List.setIfInBounds_toArray, List.set_cons_zero, List.set_cons_succ]
  refine wpAnyH_take (i := 10) (v := ?ve10) rfl (by kernel_rfl) (by kernel_rfl) (by kernel_rfl) (fun _ _ _ h => h) (Or.inl ⟨by rfl, ?ye10⟩) HSwau2.out ?re10
  case ye10 => (intro w' hSw; have hq_wau2 : Below wau2.heap.size wau2 w' := hSw; have hq_wa : Below wa.heap.size wa w' := HU_wa_wau2.out.trans (hSw.mono HU_wa_wau2.out.size); have hq := hq_wa; obtain ⟨s0, s1, s2, s3, s4, s5, s6⟩ := (HRwa.out.below hq_wa HRLwa.out).cs; clear hSw; try clear hq hq_wa hq_wau2; go_simp; try with_reducible rfl)
  simp only [List.getElem_toArray, List.getElem_cons_succ, List.getElem_cons_zero, Act.put, List.setIfInBounds_toArray, List.set_cons_zero, List.set_cons_succ]
  refine wpAnyH_take (i := 11) (v := ?ve11) rfl (by kernel_rfl) (by kernel_rfl) (by kernel_rfl) (fun _ _ _ h => h) (Or.inl ⟨by rfl, ?ye11⟩) HSwau2.out ?re11
  case ye11 => (intro w' hSw; have hq_wau2 : Below wau2.heap.size wau2 w' := hSw; have hq_wa : Below wa.heap.size wa w' := HU_wa_wau2.out.trans (hSw.mono HU_wa_wau2.out.size); have hq := hq_wa; have cc := (Y3wa.out.below hq_wa).conv; rw [HS3.out] at cc; clear hSw; try clear hq hq_wa hq_wau2; go_simp; try with_reducible rfl)
  simp only [List.getElem_toArray, List.getElem_cons_succ, List.getElem_cons_zero, Act.put, List.setIfInBounds_toArray, List.set_cons_zero, List.set_cons_succ]
  refine wpAnyH_take (i := 12) (v := ?ve12) rfl (by kernel_rfl) (by kernel_rfl) (by kernel_rfl) (fun _ _ _ h => h) (Or.inl ⟨by rfl, ?ye12⟩) HSwau2.out ?re12
  case ye12 => (intro w' hSw; clear hSw; go_simp; try with_reducible rfl)
  simp only [List.getElem_toArray, List.getElem_cons_succ, List.getElem_cons_zero, Act.put, List.setIfInBounds_toArray, List.set_cons_zero, List.set_cons_succ]
  refine wpAnyH_take (i := 13) (v := ?ve13) rfl (by kernel_rfl) (by kernel_rfl) (by kernel_rfl) (fun _ _ _ h => h) (Or.inl ⟨by rfl, ?ye13⟩) HSwau2.out ?re13
  case ye13 => (intro w' hSw; have hq_wau2 : Below wau2.heap.size wau2 w' := hSw; have hq_wa : Below wa.heap.size wa w' := HU_wa_wau2.out.trans (hSw.mono HU_wa_wau2.out.size); have hq := hq_wa; obtain ⟨s0, s1, s2, s3, s4, s5, s6⟩ := (HRwa.out.below hq_wa HRLwa.out).cs; clear hSw; try clear hq hq_wa hq_wau2; go_simp; try with_reducible rfl)
  simp only [List.getElem_toArray, List.getElem_cons_succ, List.getElem_cons_zero, Act.put, List.setIfInBounds_toArray, List.set_cons_zero, List.set_cons_succ]
  refine wpAnyH_ready (rs := [14]) (by kernel_rfl) (by simp) ?_
  refine AllReadyH.cons rfl (fun K' hK => ?_) AllReadyH.nil
  simp only [List.getElem_toArray, List.getElem_cons_succ, List.getElem_cons_zero]
  go_simp
  refine (label_any ⟨#[101, 120, 112, 111, 114, 116]⟩ P1 none sc [] 32 u1 0 0 32 _ ((HTdwa.out.at HU_wa_wau2.out)) (Y1wa.out.below HU_wa_wau2.out) (by omega) (Txt.nil _ _)).mono ?_
  rintro e' wau3 ⟨L3, l3, zc3, rfl, hX, hb⟩
  have HU_wau2_wau3 := Lib.hid hb
  rw [HK3.out] at hX
  have HL3 := Lib.hid hX.any
  clear hX
  have HU_wa_wau3 := Lib.hid (HU_wa_wau2.out.trans (HU_wau2_wau3.out.mono HU_wa_wau2.out.size))
  refine hK.out _ _ HU_wau2_wau3.out (fun _ => ?_)
  clear hK
  try simp only [List.getElem_toArray, List.getElem_cons_succ, List.getElem_cons_zero, Act.put, List.setIfInBounds_toArray, List.set_cons_zero, List.set_cons_succ]
  have HSwau3 : Hid (Below wau3.heap.size wau3 wau3) := Lib.hid (Below.refl _ _)
  refine Sha.wpAnyH_more (S' := fun W => Below wau3.heap.size wau3 W) (fun W h => HU_wau2_wau3.out.trans (h.mono HU_wau2_wau3.out.size)) _ _ _ _ ?_
  refine wpAnyH_take (i := 15) (v := ?ve14) rfl (by kernel_rfl) (by kernel_rfl) (by kernel_rfl) (fun _ _ _ h => h) (Or.inl ⟨by rfl, ?ye14⟩) HSwau3.out ?re14
  case ye14 => (intro w' hSw; have hq_wau3 : Below wau3.heap.size wau3 w' := hSw; have hq_wau2 : Below wau2.heap.size wau2 w' := HU_wau2_wau3.out.trans (hSw.mono HU_wau2_wau3.out.size); have hq_wa : Below wa.heap.size wa w' := HU_wa_wau3.out.trans (hSw.mono HU_wa_wau3.out.size); have hq := hq_wa; have cc := (HL3.out.below hq_wau3).conv; rw [HS3.out] at cc; clear hSw; try clear hq hq_wa hq_wau2 hq_wau3; go_simp; try with_reducible rfl)
  simp only [List.getElem_toArray, List.getElem_cons_succ, List.getElem_cons_zero, Act.put, List.setIfInBounds_toArray, List.set_cons_zero, List.set_cons_succ]
  refine wpAnyH_take (i := 16) (v := ?ve15) rfl (by kernel_rfl) (by kernel_rfl) (by kernel_rfl) (fun _ _ _ h => h) (Or.inl ⟨by rfl, ?ye15⟩) HSwau3.out ?re15
  case ye15 => (intro w' hSw; clear hSw; go_simp; try with_reducible rfl)
  simp only [List.getElem_toArray, List.getElem_cons_succ, List.getElem_cons_zero, Act.put, List.setIfInBounds_toArray, List.set_cons_zero, List.set_cons_succ]
  refine wpAnyH_take (i := 17) (v := ?ve16) rfl (by kernel_rfl) (by kernel_rfl) (by kernel_rfl) (fun _ _ _ h => h) (Or.inl ⟨by rfl, ?ye16⟩) HSwau3.out ?re16
  case ye16 => (intro w' hSw; clear hSw; go_simp; try with_reducible rfl)
  simp only [List.getElem_toArray, List.getElem_cons_succ, List.getElem_cons_zero, Act.put, List.setIfInBounds_toArray, List.set_cons_zero, List.set_cons_succ]
  refine wpAnyH_take (i := 18) (v := ?ve17) rfl (by kernel_rfl) (by kernel_rfl) (by kernel_rfl) (fun _ _ _ h => h) (Or.inl ⟨by rfl, ?ye17⟩) HSwau3.out ?re17
  case ye17 => (intro w' hSw; clear hSw; go_simp; try with_reducible rfl)
  simp only [List.getElem_toArray, List.getElem_cons_succ, List.getElem_cons_zero, Act.put, List.setIfInBounds_toArray, List.set_cons_zero, List.set_cons_succ]
  refine wpAnyH_take (i := 19) (v := ?ve18) rfl (by kernel_rfl) (by kernel_rfl) (by kernel_rfl) (fun _ _ _ h => h) (Or.inl ⟨by rfl, ?ye18⟩) HSwau3.out ?re18
  case ye18 => (intro w' hSw; clear hSw; go_simp; try with_reducible rfl)
  simp only [List.getElem_toArray, List.getElem_cons_succ, List.getElem_cons_zero, Act.put, List.setIfInBounds_toArray, List.set_cons_zero, List.set_cons_succ]
  refine wpAnyH_take (i := 20) (v := ?ve19) rfl (by kernel_rfl) (by kernel_rfl) (by kernel_rfl) (fun _ _ _ h => h) (Or.inl ⟨by rfl, ?ye19⟩) HSwau3.out ?re19
  case ye19 => (intro w' hSw; have hq_wau3 : Below wau3.heap.size wau3 w' := hSw; have hq_wau2 : Below wau2.heap.size wau2 w' := HU_wau2_wau3.out.trans (hSw.mono HU_wau2_wau3.out.size); have hq_wa : Below wa.heap.size wa w' := HU_wa_wau3.out.trans (hSw.mono HU_wa_wau3.out.size); have hq := hq_wa; obtain ⟨s0, s1, s2, s3, s4, s5, s6⟩ := (HRwa.out.below hq_wa HRLwa.out).cs; clear hSw; try clear hq hq_wa hq_wau2 hq_wau3; go_simp; try with_reducible rfl)
  simp only [List.getElem_toArray, List.getElem_cons_succ, List.getElem_cons_zero, Act.put, List.setIfInBounds_toArray, List.set_cons_zero, List.set_cons_succ]
  refine wpAnyH_take (i := 21) (v := ?ve20) rfl (by kernel_rfl) (by kernel_rfl) (by kernel_rfl) (fun _ _ _ h => h) (Or.inl ⟨by rfl, ?ye20⟩) HSwau3.out ?re20
  case ye20 => (intro w' hSw; have hq_wau3 : Below wau3.heap.size wau3 w' := hSw; have hq_wau2 : Below wau2.heap.size wau2 w' := HU_wau2_wau3.out.trans (hSw.mono HU_wau2_wau3.out.size); have hq_wa : Below wa.heap.size wa w' := HU_wa_wau3.out.trans (hSw.mono HU_wa_wau3.out.size); have hq := hq_wa; have cc := (Y4wa.out.below hq_wa).conv; rw [HS4.out] at cc; clear hSw; try clear hq hq_wa hq_wau2 hq_wau3; go_simp; try with_reducible rfl)
  simp only [List.getElem_toArray, List.getElem_cons_succ, List.getElem_cons_zero, Act.put, List.setIfInBounds_toArray, List.set_cons_zero, List.set_cons_succ]
  refine wpAnyH_take (i := 22) (v := ?ve21) rfl (by kernel_rfl) (by kernel_rfl) (by kernel_rfl) (fun _ _ _ h => h) (Or.inl ⟨by rfl, ?ye21⟩) HSwau3.out ?re21
  case ye21 => (intro w' hSw; clear hSw; go_simp; try with_reducible rfl)
  simp only [List.getElem_toArray, List.getElem_cons_succ, List.getElem_cons_zero, Act.put, List.setIfInBounds_toArray, List.set_cons_zero, List.set_cons_succ]
  refine wpAnyH_take (i := 23) (v := ?ve22) rfl (by kernel_rfl) (by kernel_rfl) (by kernel_rfl) (fun _ _ _ h => h) (Or.inl ⟨by rfl, ?ye22⟩) HSwau3.out ?re22
  case ye22 => (intro w' hSw; have hq_wau3 : Below wau3.heap.size wau3 w' := hSw; have hq_wau2 : Below wau2.heap.size wau2 w' := HU_wau2_wau3.out.trans (hSw.mono HU_wau2_wau3.out.size); have hq_wa : Below wa.heap.size wa w' := HU_wa_wau3.out.trans (hSw.mono HU_wa_wau3.out.size); have hq := hq_wa; obtain ⟨s0, s1, s2, s3, s4, s5, s6⟩ := (HRwa.out.below hq_wa HRLwa.out).cs; clear hSw; try clear hq hq_wa hq_wau2 hq_wau3; go_simp; try with_reducible rfl)
  simp only [List.getElem_toArray, List.getElem_cons_succ, List.getElem_cons_zero, Act.put, List.setIfInBounds_toArray, List.set_cons_zero, List.set_cons_succ]
  refine wpAnyH_ready (rs := [24]) (by kernel_rfl) (by simp) ?_
  refine AllReadyH.cons rfl (fun K' hK => ?_) AllReadyH.nil
  simp only [List.getElem_toArray, List.getElem_cons_succ, List.getElem_cons_zero]
  go_simp
  refine (label_any ⟨#[99, 111, 110, 102, 105, 114, 109]⟩ P1 none sc [] 32 u1 0 0 32 _ ((HTdwa.out.at HU_wa_wau3.out)) (Y1wa.out.below HU_wa_wau3.out) (by omega) (Txt.nil _ _)).mono ?_
  rintro e' wau4 ⟨L4, l4, zc4, rfl, hX, hb⟩
  have HU_wau3_wau4 := Lib.hid hb
  rw [HK4.out] at hX
  have HL4 := Lib.hid hX.any
  clear hX
  have HU_wau2_wau4 := Lib.hid (HU_wau2_wau3.out.trans (HU_wau3_wau4.out.mono HU_wau2_wau3.out.size))
  have HU_wa_wau4 := Lib.hid (HU_wa_wau3.out.trans (HU_wau3_wau4.out.mono HU_wa_wau3.out.size))
  refine hK.out _ _ HU_wau3_wau4.out (fun _ => ?_)
  clear hK
  try simp only [List.getElem_toArray, List.getElem_cons_succ, List.getElem_cons_zero, Act.put, List.setIfInBounds_toArray, List.set_cons_zero, List.set_cons_succ]
  have HSwau4 : Hid (Below wau4.heap.size wau4 wau4) := Lib.hid (Below.refl _ _)
  refine Sha.wpAnyH_more (S' := fun W => Below wau4.heap.size wau4 W) (fun W h => HU_wau3_wau4.out.trans (h.mono HU_wau3_wau4.out.size)) _ _ _ _ ?_
  refine wpAnyH_take (i := 25) (v := ?ve23) rfl (by kernel_rfl) (by kernel_rfl) (by kernel_rfl) (fun _ _ _ h => h) (Or.inl ⟨by rfl, ?ye23⟩) HSwau4.out ?re23
  case ye23 => (intro w' hSw; have hq_wau4 : Below wau4.heap.size wau4 w' := hSw; have hq_wau3 : Below wau3.heap.size wau3 w' := HU_wau3_wau4.out.trans (hSw.mono HU_wau3_wau4.out.size); have hq_wau2 : Below wau2.heap.size wau2 w' := HU_wau2_wau4.out.trans (hSw.mono HU_wau2_wau4.out.size); have hq_wa : Below wa.heap.size wa w' := HU_wa_wau4.out.trans (hSw.mono HU_wa_wau4.out.size); have hq := hq_wa; have cc := (HL4.out.below hq_wau4).conv; rw [HS4.out] at cc; clear hSw; try clear hq hq_wa hq_wau2 hq_wau3 hq_wau4; go_simp; try with_reducible rfl)
  simp only [List.getElem_toArray, List.getElem_cons_succ, List.getElem_cons_zero, Act.put, List.setIfInBounds_toArray, List.set_cons_zero, List.set_cons_succ]
  refine wpAnyH_take (i := 26) (v := ?ve24) rfl (by kernel_rfl) (by kernel_rfl) (by kernel_rfl) (fun _ _ _ h => h) (Or.inl ⟨by rfl, ?ye24⟩) HSwau4.out ?re24
  case ye24 => (intro w' hSw; clear hSw; go_simp; try with_reducible rfl)
  simp only [List.getElem_toArray, List.getElem_cons_succ, List.getElem_cons_zero, Act.put, List.setIfInBounds_toArray, List.set_cons_zero, List.set_cons_succ]
  refine wpAnyH_take (i := 27) (v := ?ve25) rfl (by kernel_rfl) (by kernel_rfl) (by kernel_rfl) (fun _ _ _ h => h) (Or.inl ⟨by rfl, ?ye25⟩) HSwau4.out ?re25
  case ye25 => (intro w' hSw; clear hSw; go_simp; try with_reducible rfl)
  simp only [List.getElem_toArray, List.getElem_cons_succ, List.getElem_cons_zero, Act.put, List.setIfInBounds_toArray, List.set_cons_zero, List.set_cons_succ]
  refine wpAnyH_take (i := 28) (v := ?ve26) rfl (by kernel_rfl) (by kernel_rfl) (by kernel_rfl) (fun _ _ _ h => h) (Or.inl ⟨by rfl, ?ye26⟩) HSwau4.out ?re26
  case ye26 => (intro w' hSw; clear hSw; go_simp; try with_reducible rfl)
  simp only [List.getElem_toArray, List.getElem_cons_succ, List.getElem_cons_zero, Act.put, List.setIfInBounds_toArray, List.set_cons_zero, List.set_cons_succ]
  refine wpAnyH_done (by kernel_rfl) ?_ _
  change Exit.then _ _ Exit.normal _ _
  have HBe : Hid (Below wa.heap.size wa wau4.drew) := Lib.hid HU_wa_wau4.out.drew
  have HTdwb : Hid (Tabs wau4.drew) := Lib.hid (HTdwa.out.at HBe.out)
  have HRwb : Hid (Row7 wau4.drew g2 _ _ _ _ _ _ _) := Lib.hid (HRwa.out.below HBe.out HRLwa.out)
  have HRLwb : Hid (g2 < wau4.drew.heap.size) := Lib.hid (Nat.lt_of_lt_of_le HRLwa.out HBe.out.size)
  have Y1wb : Hid (Txt Any wau4.drew P1 32 u1 sc) := Lib.hid (Y1wa.out.below HBe.out)
  have Y5wb : Hid (Txt Any wau4.drew P5 p5 u5 K5) := Lib.hid (Y5wa.out.below HBe.out)
  have Y6wb : Hid (Txt Any wau4.drew P6 p6 u6 K6) := Lib.hid (Y6wa.out.below HBe.out)
  have HBf : Hid (Below w.heap.size w wau4.drew) := Lib.hid (HBd.out.trans (HBe.out.mono HBd.out.size))
  go_wp2_with fail
  try simp only [Act.put]
  refine Wr.region_calm ?_
  refine wp_region_any (by kernel_rfl) ?_
  change wpAny _ _ _ _ _ _ _ (World.drew wau4)
  generalize World.drew wau4 = wb at *
  have HSwb : Hid (Below wb.heap.size wb wb) := Lib.hid (Below.refl _ _)
  refine wpAny_of_held (S := fun W => Below wb.heap.size wb W) _ _ _ _ ?_
  refine wpAnyH_take (i := 0) (v := ?ve27) rfl (by kernel_rfl) (by kernel_rfl) (by kernel_rfl) (fun _ _ _ h => h) (Or.inl ⟨by rfl, ?ye27⟩) HSwb.out ?re27
  case ye27 => (intro w' hSw; clear hSw; go_simp; try with_reducible rfl)
  simp only [List.getElem_toArray, List.getElem_cons_succ, List.getElem_cons_zero, Act.put, List.setIfInBounds_toArray, List.set_cons_zero, List.set_cons_succ]
  refine wpAnyH_take (i := 1) (v := ?ve28) rfl (by kernel_rfl) (by kernel_rfl) (by kernel_rfl) (fun _ _ _ h => h) (Or.inl ⟨by rfl, ?ye28⟩) HSwb.out ?re28
  case ye28 => (intro w' hSw; clear hSw; go_simp; try with_reducible rfl)
  simp only [List.getElem_toArray, List.getElem_cons_succ, List.getElem_cons_zero, Act.put, List.setIfInBounds_toArray, List.set_cons_zero, List.set_cons_succ]
  refine wpAnyH_take (i := 2) (v := ?ve29) rfl (by kernel_rfl) (by kernel_rfl) (by kernel_rfl) (fun _ _ _ h => h) (Or.inl ⟨by rfl, ?ye29⟩) HSwb.out ?re29
  case ye29 => (intro w' hSw; clear hSw; go_simp; try with_reducible rfl)
  simp only [List.getElem_toArray, List.getElem_cons_succ, List.getElem_cons_zero, Act.put, List.setIfInBounds_toArray, List.set_cons_zero, List.set_cons_succ]
  refine wpAnyH_take (i := 3) (v := ?ve30) rfl (by kernel_rfl) (by kernel_rfl) (by kernel_rfl) (fun _ _ _ h => h) (Or.inl ⟨by rfl, ?ye30⟩) HSwb.out ?re30
  case ye30 => (intro w' hSw; clear hSw; go_simp; try with_reducible rfl)
  simp only [List.getElem_toArray, List.getElem_cons_succ, List.getElem_cons_zero, Act.put, List.setIfInBounds_toArray, List.set_cons_zero, List.set_cons_succ]
  refine wpAnyH_take (i := 4) (v := ?ve31) rfl (by kernel_rfl) (by kernel_rfl) (by kernel_rfl) (fun _ _ _ h => h) (Or.inl ⟨by rfl, ?ye31⟩) HSwb.out ?re31
  case ye31 => (intro w' hSw; clear hSw; go_simp; try with_reducible rfl)
  simp only [List.getElem_toArray, List.getElem_cons_succ, List.getElem_cons_zero, Act.put, List.setIfInBounds_toArray, List.set_cons_zero, List.set_cons_succ]
  refine wpAnyH_take (i := 5) (v := ?ve32) rfl (by kernel_rfl) (by kernel_rfl) (by kernel_rfl) (fun _ _ _ h => h) (Or.inl ⟨by rfl, ?ye32⟩) HSwb.out ?re32
  case ye32 => (intro w' hSw; clear hSw; go_simp; try with_reducible rfl)
  simp only [List.getElem_toArray, List.getElem_cons_succ, List.getElem_cons_zero, Act.put, List.setIfInBounds_toArray, List.set_cons_zero, List.set_cons_succ]
  refine wpAnyH_take (i := 6) (v := ?ve33) rfl (by kernel_rfl) (by kernel_rfl) (by kernel_rfl) (fun _ _ _ h => h) (Or.inl ⟨by rfl, ?ye33⟩) HSwb.out ?re33
  case ye33 => (intro w' hSw; have hq_wb : Below wb.heap.size wb w' := hSw; have hq := hq_wb; obtain ⟨s0, s1, s2, s3, s4, s5, s6⟩ := (HRwb.out.below hq_wb HRLwb.out).cs; clear hSw; try clear hq hq_wb; go_simp; try with_reducible rfl)
  simp only [List.getElem_toArray, List.getElem_cons_succ, List.getElem_cons_zero, Act.put, List.setIfInBounds_toArray, List.set_cons_zero, List.set_cons_succ]
  refine wpAnyH_take (i := 7) (v := ?ve34) rfl (by kernel_rfl) (by kernel_rfl) (by kernel_rfl) (fun _ _ _ h => h) (Or.inl ⟨by rfl, ?ye34⟩) HSwb.out ?re34
  case ye34 => (intro w' hSw; have hq_wb : Below wb.heap.size wb w' := hSw; have hq := hq_wb; have cc := (Y5wb.out.below hq_wb).conv; rw [HS5.out] at cc; clear hSw; try clear hq hq_wb; go_simp; try with_reducible rfl)
  simp only [List.getElem_toArray, List.getElem_cons_succ, List.getElem_cons_zero, Act.put, List.setIfInBounds_toArray, List.set_cons_zero, List.set_cons_succ]
  refine wpAnyH_take (i := 8) (v := ?ve35) rfl (by kernel_rfl) (by kernel_rfl) (by kernel_rfl) (fun _ _ _ h => h) (Or.inl ⟨by rfl, ?ye35⟩) HSwb.out ?re35
  case ye35 => (intro w' hSw; clear hSw; go_simp; try with_reducible rfl)
  simp only [List.getElem_toArray, List.getElem_cons_succ, List.getElem_cons_zero, Act.put, List.setIfInBounds_toArray, List.set_cons_zero, List.set_cons_succ]
  refine wpAnyH_take (i := 9) (v := ?ve36) rfl (by kernel_rfl) (by kernel_rfl) (by kernel_rfl) (fun _ _ _ h => h) (Or.inl ⟨by rfl, ?ye36⟩) HSwb.out ?re36
  case ye36 => (intro w' hSw; have hq_wb : Below wb.heap.size wb w' := hSw; have hq := hq_wb; obtain ⟨s0, s1, s2, s3, s4, s5, s6⟩ := (HRwb.out.below hq_wb HRLwb.out).cs; clear hSw; try clear hq hq_wb; go_simp; try with_reducible rfl)
  simp only [List.getElem_toArray, List.getElem_cons_succ, List.getElem_cons_zero, Act.put, List.setIfInBounds_toArray, List.set_cons_zero, List.set_cons_succ]
  refine wpAnyH_ready (rs := [10]) (by kernel_rfl) (by simp) ?_
  refine AllReadyH.cons rfl (fun K' hK => ?_) AllReadyH.nil
  simp only [List.getElem_toArray, List.getElem_cons_succ, List.getElem_cons_zero]
  go_simp
  refine (label_any ⟨#[109, 101, 109, 98, 101, 114]⟩ P1 none sc [] 32 u1 0 0 32 _ ((HTdwb.out.at (Below.refl _ _))) (Y1wb.out.below (Below.refl _ _)) (by omega) (Txt.nil _ _)).mono ?_
  rintro e' wbu5 ⟨L5, l5, zc5, rfl, hX, hb⟩
  have HU_wb_wbu5 := Lib.hid hb
  rw [HK5.out] at hX
  have HL5 := Lib.hid hX.any
  clear hX
  refine hK.out _ _ HU_wb_wbu5.out (fun _ => ?_)
  clear hK
  try simp only [List.getElem_toArray, List.getElem_cons_succ, List.getElem_cons_zero, Act.put, List.setIfInBounds_toArray, List.set_cons_zero, List.set_cons_succ]
  have HSwbu5 : Hid (Below wbu5.heap.size wbu5 wbu5) := Lib.hid (Below.refl _ _)
  refine Sha.wpAnyH_more (S' := fun W => Below wbu5.heap.size wbu5 W) (fun W h => HU_wb_wbu5.out.trans (h.mono HU_wb_wbu5.out.size)) _ _ _ _ ?_
  refine wpAnyH_take (i := 11) (v := ?ve37) rfl (by kernel_rfl) (by kernel_rfl) (by kernel_rfl) (fun _ _ _ h => h) (Or.inl ⟨by rfl, ?ye37⟩) HSwbu5.out ?re37
  case ye37 => (intro w' hSw; have hq_wbu5 : Below wbu5.heap.size wbu5 w' := hSw; have hq_wb : Below wb.heap.size wb w' := HU_wb_wbu5.out.trans (hSw.mono HU_wb_wbu5.out.size); have hq := hq_wb; have cc := (HL5.out.below hq_wbu5).conv; rw [HS5.out] at cc; clear hSw; try clear hq hq_wb hq_wbu5; go_simp; try with_reducible rfl)
  simp only [List.getElem_toArray, List.getElem_cons_succ, List.getElem_cons_zero, Act.put, List.setIfInBounds_toArray, List.set_cons_zero, List.set_cons_succ]
  refine wpAnyH_take (i := 12) (v := ?ve38) rfl (by kernel_rfl) (by kernel_rfl) (by kernel_rfl) (fun _ _ _ h => h) (Or.inl ⟨by rfl, ?ye38⟩) HSwbu5.out ?re38
  case ye38 => (intro w' hSw; clear hSw; go_simp; try with_reducible rfl)
  simp only [List.getElem_toArray, List.getElem_cons_succ, List.getElem_cons_zero, Act.put, List.setIfInBounds_toArray, List.set_cons_zero, List.set_cons_succ]
  refine wpAnyH_take (i := 13) (v := ?ve39) rfl (by kernel_rfl) (by kernel_rfl) (by kernel_rfl) (fun _ _ _ h => h) (Or.inl ⟨by rfl, ?ye39⟩) HSwbu5.out ?re39
  case ye39 => (intro w' hSw; clear hSw; go_simp; try with_reducible rfl)
  simp only [List.getElem_toArray, List.getElem_cons_succ, List.getElem_cons_zero, Act.put, List.setIfInBounds_toArray, List.set_cons_zero, List.set_cons_succ]
  refine wpAnyH_take (i := 14) (v := ?ve40) rfl (by kernel_rfl) (by kernel_rfl) (by kernel_rfl) (fun _ _ _ h => h) (Or.inl ⟨by rfl, ?ye40⟩) HSwbu5.out ?re40
  case ye40 => (intro w' hSw; clear hSw; go_simp; try with_reducible rfl)
  simp only [List.getElem_toArray, List.getElem_cons_succ, List.getElem_cons_zero, Act.put, List.setIfInBounds_toArray, List.set_cons_zero, List.set_cons_succ]
  refine wpAnyH_take (i := 15) (v := ?ve41) rfl (by kernel_rfl) (by kernel_rfl) (by kernel_rfl) (fun _ _ _ h => h) (Or.inl ⟨by rfl, ?ye41⟩) HSwbu5.out ?re41
  case ye41 => (intro w' hSw; clear hSw; go_simp; try with_reducible rfl)
  simp only [List.getElem_toArray, List.getElem_cons_succ, List.getElem_cons_zero, Act.put, List.setIfInBounds_toArray, List.set_cons_zero, List.set_cons_succ]
  refine wpAnyH_take (i := 16) (v := ?ve42) rfl (by kernel_rfl) (by kernel_rfl) (by kernel_rfl) (fun _ _ _ h => h) (Or.inl ⟨by rfl, ?ye42⟩) HSwbu5.out ?re42
  case ye42 => (intro w' hSw; have hq_wbu5 : Below wbu5.heap.size wbu5 w' := hSw; have hq_wb : Below wb.heap.size wb w' := HU_wb_wbu5.out.trans (hSw.mono HU_wb_wbu5.out.size); have hq := hq_wb; obtain ⟨s0, s1, s2, s3, s4, s5, s6⟩ := (HRwb.out.below hq_wb HRLwb.out).cs; clear hSw; try clear hq hq_wb hq_wbu5; go_simp; try with_reducible rfl)
  simp only [List.getElem_toArray, List.getElem_cons_succ, List.getElem_cons_zero, Act.put, List.setIfInBounds_toArray, List.set_cons_zero, List.set_cons_succ]
  refine wpAnyH_take (i := 17) (v := ?ve43) rfl (by kernel_rfl) (by kernel_rfl) (by kernel_rfl) (fun _ _ _ h => h) (Or.inl ⟨by rfl, ?ye43⟩) HSwbu5.out ?re43
  case ye43 => (intro w' hSw; have hq_wbu5 : Below wbu5.heap.size wbu5 w' := hSw; have hq_wb : Below wb.heap.size wb w' := HU_wb_wbu5.out.trans (hSw.mono HU_wb_wbu5.out.size); have hq := hq_wb; have cc := (Y6wb.out.below hq_wb).conv; rw [HS6.out] at cc; clear hSw; try clear hq hq_wb hq_wbu5; go_simp; try with_reducible rfl)
  simp only [List.getElem_toArray, List.getElem_cons_succ, List.getElem_cons_zero, Act.put, List.setIfInBounds_toArray, List.set_cons_zero, List.set_cons_succ]
  refine wpAnyH_take (i := 18) (v := ?ve44) rfl (by kernel_rfl) (by kernel_rfl) (by kernel_rfl) (fun _ _ _ h => h) (Or.inl ⟨by rfl, ?ye44⟩) HSwbu5.out ?re44
  case ye44 => (intro w' hSw; clear hSw; go_simp; try with_reducible rfl)
  simp only [List.getElem_toArray, List.getElem_cons_succ, List.getElem_cons_zero, Act.put, List.setIfInBounds_toArray, List.set_cons_zero, List.set_cons_succ]
  refine wpAnyH_take (i := 19) (v := ?ve45) rfl (by kernel_rfl) (by kernel_rfl) (by kernel_rfl) (fun _ _ _ h => h) (Or.inl ⟨by rfl, ?ye45⟩) HSwbu5.out ?re45
  case ye45 => (intro w' hSw; have hq_wbu5 : Below wbu5.heap.size wbu5 w' := hSw; have hq_wb : Below wb.heap.size wb w' := HU_wb_wbu5.out.trans (hSw.mono HU_wb_wbu5.out.size); have hq := hq_wb; obtain ⟨s0, s1, s2, s3, s4, s5, s6⟩ := (HRwb.out.below hq_wb HRLwb.out).cs; clear hSw; try clear hq hq_wb hq_wbu5; go_simp; try with_reducible rfl)
  simp only [List.getElem_toArray, List.getElem_cons_succ, List.getElem_cons_zero, Act.put, List.setIfInBounds_toArray, List.set_cons_zero, List.set_cons_succ]
  refine wpAnyH_ready (rs := [20]) (by kernel_rfl) (by simp) ?_
  refine AllReadyH.cons rfl (fun K' hK => ?_) AllReadyH.nil
  simp only [List.getElem_toArray, List.getElem_cons_succ, List.getElem_cons_zero]
  go_simp
  refine (label_any ⟨#[105, 110, 105, 116]⟩ P1 none sc [] 32 u1 0 0 32 _ ((HTdwb.out.at HU_wb_wbu5.out)) (Y1wb.out.below HU_wb_wbu5.out) (by omega) (Txt.nil _ _)).mono ?_
  rintro e' wbu6 ⟨L6, l6, zc6, rfl, hX, hb⟩
  have HU_wbu5_wbu6 := Lib.hid hb
  rw [HK6.out] at hX
  have HL6 := Lib.hid hX.any
  clear hX
  have HU_wb_wbu6 := Lib.hid (HU_wb_wbu5.out.trans (HU_wbu5_wbu6.out.mono HU_wb_wbu5.out.size))
  refine hK.out _ _ HU_wbu5_wbu6.out (fun _ => ?_)
  clear hK
  try simp only [List.getElem_toArray, List.getElem_cons_succ, List.getElem_cons_zero, Act.put, List.setIfInBounds_toArray, List.set_cons_zero, List.set_cons_succ]
  have HSwbu6 : Hid (Below wbu6.heap.size wbu6 wbu6) := Lib.hid (Below.refl _ _)
  refine Sha.wpAnyH_more (S' := fun W => Below wbu6.heap.size wbu6 W) (fun W h => HU_wbu5_wbu6.out.trans (h.mono HU_wbu5_wbu6.out.size)) _ _ _ _ ?_
  refine wpAnyH_take (i := 21) (v := ?ve46) rfl (by kernel_rfl) (by kernel_rfl) (by kernel_rfl) (fun _ _ _ h => h) (Or.inl ⟨by rfl, ?ye46⟩) HSwbu6.out ?re46
  case ye46 => (intro w' hSw; have hq_wbu6 : Below wbu6.heap.size wbu6 w' := hSw; have hq_wbu5 : Below wbu5.heap.size wbu5 w' := HU_wbu5_wbu6.out.trans (hSw.mono HU_wbu5_wbu6.out.size); have hq_wb : Below wb.heap.size wb w' := HU_wb_wbu6.out.trans (hSw.mono HU_wb_wbu6.out.size); have hq := hq_wb; have cc := (HL6.out.below hq_wbu6).conv; rw [HS6.out] at cc; clear hSw; try clear hq hq_wb hq_wbu5 hq_wbu6; go_simp; try with_reducible rfl)
  simp only [List.getElem_toArray, List.getElem_cons_succ, List.getElem_cons_zero, Act.put, List.setIfInBounds_toArray, List.set_cons_zero, List.set_cons_succ]
  refine wpAnyH_take (i := 22) (v := ?ve47) rfl (by kernel_rfl) (by kernel_rfl) (by kernel_rfl) (fun _ _ _ h => h) (Or.inl ⟨by rfl, ?ye47⟩) HSwbu6.out ?re47
  case ye47 => (intro w' hSw; clear hSw; go_simp; try with_reducible rfl)
  simp only [List.getElem_toArray, List.getElem_cons_succ, List.getElem_cons_zero, Act.put, List.setIfInBounds_toArray, List.set_cons_zero, List.set_cons_succ]
  refine wpAnyH_take (i := 23) (v := ?ve48) rfl (by kernel_rfl) (by kernel_rfl) (by kernel_rfl) (fun _ _ _ h => h) (Or.inl ⟨by rfl, ?ye48⟩) HSwbu6.out ?re48
  case ye48 => (intro w' hSw; clear hSw; go_simp; try with_reducible rfl)
  simp only [List.getElem_toArray, List.getElem_cons_succ, List.getElem_cons_zero, Act.put, List.setIfInBounds_toArray, List.set_cons_zero, List.set_cons_succ]
  refine wpAnyH_take (i := 24) (v := ?ve49) rfl (by kernel_rfl) (by kernel_rfl) (by kernel_rfl) (fun _ _ _ h => h) (Or.inl ⟨by rfl, ?ye49⟩) HSwbu6.out ?re49
  case ye49 => (intro w' hSw; clear hSw; go_simp; try with_reducible rfl)
  simp only [List.getElem_toArray, List.getElem_cons_succ, List.getElem_cons_zero, Act.put, List.setIfInBounds_toArray, List.set_cons_zero, List.set_cons_succ]
  refine wpAnyH_done (by kernel_rfl) ?_ _
  change Exit.then _ _ Exit.normal _ _
  go_wp2
  go_ret
  exact ⟨rfl, HBf.out.trans (HU_wb_wbu6.out.mono HBf.out.size)⟩
end Go.Proofs.YtikafijdfgkgkaaDoor.Sc
