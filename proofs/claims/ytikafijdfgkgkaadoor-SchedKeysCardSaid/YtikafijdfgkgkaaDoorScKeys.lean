/- SchedKeys: the walk. Written by tools/mk_sckeys.py. -/
import Derived.Test.YtikafijdfgkgkaaDoorScWalkD
namespace Go.Proofs.YtikafijdfgkgkaaDoor.Sc
set_option linter.all false
open Go.RowKit
open Wr (Txt TxtL Any New bcells gt)

set_option maxHeartbeats 8000000 in
set_option maxRecDepth 100000 in
theorem schedKeys_walk (A : Option Addr) (i : List Nat) (n1 c1 : Nat) (B : Option Addr) (c : List Nat) (n2 c2 : Nat) (C : Option Addr) (x : List Nat) (n3 c3 : Nat) (w : World) (hT : Tabs w) (hA : Txt Any w A n1 c1 i) (hB : Txt Any w B n2 c2 c) (hC : Txt Any w C n3 c3 x) :
    Calls Tryd.prog 3 #[.slice A n1 c1, .slice B n2 c2, .slice C n3 c3] w fun e w' => e = .returned (.bool true) ∧ Below w.heap.size w w' := by
  have HT := Lib.hid hT; have HI := Lib.hid hA; have HC := Lib.hid hB; have HX := Lib.hid hC
  obtain ⟨j, hj⟩ : ∃ j, jn i c x = j := ⟨_, rfl⟩
  have HJ := Lib.hid hj
  obtain ⟨S, hS⟩ : ∃ S, Wr.txt j = S := ⟨_, rfl⟩
  have HS := Lib.hid hS
  clear hT hA hB hC hj hS
  go_enter Tryd.func3, Tryd.ntmps3
  go_wp2_with fail
  refine (head_any _ HT.out).mono ?_
  rintro e' w1 ⟨rfl, hb⟩
  have B1 := Lib.hid hb
  clear hb
  by_cases h1 : 20000 < n1
  case pos =>
    go_wp2_with fail
    refine (great_yes A n1 c1 _ h1).mono ?_
    rintro e' w2 ⟨rfl, rfl⟩
    go_wp2
    go_ret
    exact ⟨rfl, B1.out⟩
  go_wp2_with fail
  refine (great_no A n1 c1 _ (by omega)).mono ?_
  rintro e' w2 ⟨rfl, rfl⟩
  by_cases h2 : 20000 < n2
  case pos =>
    go_wp2_with fail
    refine (great_yes B n2 c2 _ h2).mono ?_
    rintro e' w2 ⟨rfl, rfl⟩
    go_wp2
    go_ret
    exact ⟨rfl, B1.out⟩
  go_wp2_with fail
  refine (great_no B n2 c2 _ (by omega)).mono ?_
  rintro e' w2 ⟨rfl, rfl⟩
  by_cases h3 : 20000 < n3
  case pos =>
    go_wp2_with fail
    refine (great_yes C n3 c3 _ h3).mono ?_
    rintro e' w2 ⟨rfl, rfl⟩
    go_wp2
    go_ret
    exact ⟨rfl, B1.out⟩
  go_wp2_with fail
  refine (great_no C n3 c3 _ (by omega)).mono ?_
  rintro e' w2 ⟨rfl, rfl⟩
  go_wp2_with fail
  refine (joiner_any A B C i c x n1 c1 n2 c2 n3 c3 w1 (HT.out.at B1.out) (HI.out.below B1.out) (HC.out.below B1.out) (HX.out.below B1.out) (by omega) (by omega) (by omega)).mono ?_
  rw [HJ.out]
  rintro e' w4 ⟨JA, jm, jd, rfl, hX, hb⟩
  obtain rfl : jm = 32 := by rw [← hX.2.1, ← HJ.out]; exact jn_len _ _ _
  have B4 : Hid (Below w.heap.size w w4.drew) := Lib.hid (B1.out.trans (hb.mono B1.out.size)).drew
  have HA : Hid (Txt Any w4.drew JA 32 jd j) := Lib.hid hX.any
  have HTd := Lib.hid (HT.out.at B4.out); have HId := Lib.hid (HI.out.below B4.out); have HCd := Lib.hid (HC.out.below B4.out); have HXd := Lib.hid (HX.out.below B4.out)
  clear hX hb B1 HT HI HC HX
  go_wp2_with fail
  try simp only [Act.put]
  refine Wr.region_calm ?_
  refine wp_region_any (by kernel_rfl) ?_
  change wpAny _ _ _ _ _ _ _ (World.drew w4)
  generalize World.drew w4 = wd at *
  have HSwd : Hid (Below wd.heap.size wd wd) := Lib.hid (Below.refl _ _)
  refine wpAny_of_held (S := fun W => Below wd.heap.size wd W) _ _ _ _ ?_
  refine wpAnyH_take (i := 0) (v := ?ve1) rfl (by kernel_rfl) (by kernel_rfl) (by kernel_rfl) (fun _ _ _ h => h) (Or.inl ⟨by rfl, ?ye1⟩) HSwd.out ?re1
  case ye1 => (intro w' hSw; clear hSw; go_simp; try with_reducible rfl)
  simp only [List.getElem_toArray, List.getElem_cons_succ, List.getElem_cons_zero, Act.put, List.setIfInBounds_toArray, List.set_cons_zero, List.set_cons_succ]
  refine wpAnyH_take (i := 1) (v := ?ve2) rfl (by kernel_rfl) (by kernel_rfl) (by kernel_rfl) (fun _ _ _ h => h) (Or.inl ⟨by rfl, ?ye2⟩) HSwd.out ?re2
  case ye2 => (intro w' hSw; clear hSw; go_simp; try with_reducible rfl)
  simp only [List.getElem_toArray, List.getElem_cons_succ, List.getElem_cons_zero, Act.put, List.setIfInBounds_toArray, List.set_cons_zero, List.set_cons_succ]
  refine wpAnyH_take (i := 2) (v := ?ve3) rfl (by kernel_rfl) (by kernel_rfl) (by kernel_rfl) (fun _ _ _ h => h) (Or.inl ⟨by rfl, ?ye3⟩) HSwd.out ?re3
  case ye3 => (intro w' hSw; clear hSw; go_simp; try with_reducible rfl)
  simp only [List.getElem_toArray, List.getElem_cons_succ, List.getElem_cons_zero, Act.put, List.setIfInBounds_toArray, List.set_cons_zero, List.set_cons_succ]
  refine wpAnyH_take (i := 3) (v := ?ve4) rfl (by kernel_rfl) (by kernel_rfl) (by kernel_rfl) (fun _ _ _ h => h) (Or.inl ⟨by rfl, ?ye4⟩) HSwd.out ?re4
  case ye4 => (intro w' hSw; have hq_wd : Below wd.heap.size wd w' := hSw; have hq := hq_wd; have cc1 := (HA.out.below hq_wd).conv; rw [HS.out] at cc1; clear hSw; try clear hq hq_wd; go_simp; try with_reducible rfl)
  simp only [List.getElem_toArray, List.getElem_cons_succ, List.getElem_cons_zero, Act.put, List.setIfInBounds_toArray, List.set_cons_zero, List.set_cons_succ]
  refine wpAnyH_take (i := 4) (v := ?ve5) rfl (by kernel_rfl) (by kernel_rfl) (by kernel_rfl) (fun _ _ _ h => h) (Or.inl ⟨by rfl, ?ye5⟩) HSwd.out ?re5
  case ye5 => (intro w' hSw; clear hSw; go_simp; try with_reducible rfl)
  simp only [List.getElem_toArray, List.getElem_cons_succ, List.getElem_cons_zero, Act.put, List.setIfInBounds_toArray, List.set_cons_zero, List.set_cons_succ]
  refine wpAnyH_take (i := 5) (v := ?ve6) rfl (by kernel_rfl) (by kernel_rfl) (by kernel_rfl) (fun _ _ _ h => h) (Or.inl ⟨by rfl, ?ye6⟩) HSwd.out ?re6
  case ye6 => (intro w' hSw; clear hSw; go_simp; try with_reducible rfl)
  simp only [List.getElem_toArray, List.getElem_cons_succ, List.getElem_cons_zero, Act.put, List.setIfInBounds_toArray, List.set_cons_zero, List.set_cons_succ]
  refine wpAnyH_take (i := 6) (v := ?ve7) rfl (by kernel_rfl) (by kernel_rfl) (by kernel_rfl) (fun _ _ _ h => h) (Or.inl ⟨by rfl, ?ye7⟩) HSwd.out ?re7
  case ye7 => (intro w' hSw; clear hSw; go_simp; try with_reducible rfl)
  simp only [List.getElem_toArray, List.getElem_cons_succ, List.getElem_cons_zero, Act.put, List.setIfInBounds_toArray, List.set_cons_zero, List.set_cons_succ]
  refine wpAnyH_ready (rs := [7]) (by kernel_rfl) (by simp) ?_
  refine AllReadyH.cons rfl (fun K' hK => ?_) AllReadyH.nil
  simp only [List.getElem_toArray, List.getElem_cons_succ, List.getElem_cons_zero]
  go_simp
  refine (rjoiner_any A B C i c x n1 c1 n2 c2 n3 c3 _ HId.out HCd.out HXd.out (by omega) (by omega) (by omega)).mono ?_
  rintro e' u1 ⟨X1, m1, d1, rfl, hX, hb⟩
  have HU_wd_u1 := Lib.hid hb
  rw [HJ.out] at hX
  have HX1 := Lib.hid hX.any
  clear hX
  refine hK.out _ _ HU_wd_u1.out (fun _ => ?_)
  clear hK
  try simp only [List.getElem_toArray, List.getElem_cons_succ, List.getElem_cons_zero, Act.put, List.setIfInBounds_toArray, List.set_cons_zero, List.set_cons_succ]
  have HSu1 : Hid (Below u1.heap.size u1 u1) := Lib.hid (Below.refl _ _)
  refine Sha.wpAnyH_more (S' := fun W => Below u1.heap.size u1 W) (fun W h => HU_wd_u1.out.trans (h.mono HU_wd_u1.out.size)) _ _ _ _ ?_
  refine wpAnyH_take (i := 8) (v := ?ve8) rfl (by kernel_rfl) (by kernel_rfl) (by kernel_rfl) (fun _ _ _ h => h) (Or.inl ⟨by rfl, ?ye8⟩) HSu1.out ?re8
  case ye8 => (intro w' hSw; have hq_u1 : Below u1.heap.size u1 w' := hSw; have hq_wd : Below wd.heap.size wd w' := HU_wd_u1.out.trans (hSw.mono HU_wd_u1.out.size); have hq := hq_wd; have cc2 := (HX1.out.below hq_u1).conv; rw [HS.out] at cc2; clear hSw; try clear hq hq_wd hq_u1; go_simp; try with_reducible rfl)
  simp only [List.getElem_toArray, List.getElem_cons_succ, List.getElem_cons_zero, Act.put, List.setIfInBounds_toArray, List.set_cons_zero, List.set_cons_succ]
  refine wpAnyH_take (i := 9) (v := ?ve9) rfl (by kernel_rfl) (by kernel_rfl) (by kernel_rfl) (fun _ _ _ h => h) (Or.inl ⟨by rfl, ?ye9⟩) HSu1.out ?re9
  case ye9 => (intro w' hSw; clear hSw; go_simp; try with_reducible rfl)
  simp only [List.getElem_toArray, List.getElem_cons_succ, List.getElem_cons_zero, Act.put, List.setIfInBounds_toArray, List.set_cons_zero, List.set_cons_succ]
  refine wpAnyH_take (i := 10) (v := ?ve10) rfl (by kernel_rfl) (by kernel_rfl) (by kernel_rfl) (fun _ _ _ h => h) (Or.inl ⟨by rfl, ?ye10⟩) HSu1.out ?re10
  case ye10 => (intro w' hSw; clear hSw; go_simp; try with_reducible rfl)
  simp only [List.getElem_toArray, List.getElem_cons_succ, List.getElem_cons_zero, Act.put, List.setIfInBounds_toArray, List.set_cons_zero, List.set_cons_succ]
  refine wpAnyH_take (i := 11) (v := ?ve11) rfl (by kernel_rfl) (by kernel_rfl) (by kernel_rfl) (fun _ _ _ h => h) (Or.inl ⟨by rfl, ?ye11⟩) HSu1.out ?re11
  case ye11 => (intro w' hSw; clear hSw; go_simp; try with_reducible rfl)
  simp only [List.getElem_toArray, List.getElem_cons_succ, List.getElem_cons_zero, Act.put, List.setIfInBounds_toArray, List.set_cons_zero, List.set_cons_succ]
  refine wpAnyH_take (i := 12) (v := ?ve12) rfl (by kernel_rfl) (by kernel_rfl) (by kernel_rfl) (fun _ _ _ h => h) (Or.inl ⟨by rfl, ?ye12⟩) HSu1.out ?re12
  case ye12 => (intro w' hSw; clear hSw; go_simp; try with_reducible rfl)
  simp only [List.getElem_toArray, List.getElem_cons_succ, List.getElem_cons_zero, Act.put, List.setIfInBounds_toArray, List.set_cons_zero, List.set_cons_succ]
  refine wpAnyH_take (i := 13) (v := ?ve13) rfl (by kernel_rfl) (by kernel_rfl) (by kernel_rfl) (fun _ _ _ h => h) (Or.inl ⟨by rfl, ?ye13⟩) HSu1.out ?re13
  case ye13 => (intro w' hSw; clear hSw; go_simp; try with_reducible rfl)
  simp only [List.getElem_toArray, List.getElem_cons_succ, List.getElem_cons_zero, Act.put, List.setIfInBounds_toArray, List.set_cons_zero, List.set_cons_succ]
  refine wpAnyH_take (i := 15) (v := ?ve14) rfl (by kernel_rfl) (by kernel_rfl) (by kernel_rfl) (fun _ _ _ h => h) (Or.inl ⟨by rfl, ?ye14⟩) HSu1.out ?re14
  case ye14 => (intro w' hSw; clear hSw; go_simp; try with_reducible rfl)
  simp only [List.getElem_toArray, List.getElem_cons_succ, List.getElem_cons_zero, Act.put, List.setIfInBounds_toArray, List.set_cons_zero, List.set_cons_succ]
  refine wpAnyH_take (i := 16) (v := ?ve15) rfl (by kernel_rfl) (by kernel_rfl) (by kernel_rfl) (fun _ _ _ h => h) (Or.inl ⟨by rfl, ?ye15⟩) HSu1.out ?re15
  case ye15 => (intro w' hSw; clear hSw; go_simp; try with_reducible rfl)
  simp only [List.getElem_toArray, List.getElem_cons_succ, List.getElem_cons_zero, Act.put, List.setIfInBounds_toArray, List.set_cons_zero, List.set_cons_succ]
  refine wpAnyH_ready (rs := [14]) (by kernel_rfl) (by simp) ?_
  refine AllReadyH.cons rfl (fun K' hK => ?_) AllReadyH.nil
  simp only [List.getElem_toArray, List.getElem_cons_succ, List.getElem_cons_zero]
  go_simp
  refine (derive_any JA C j x 32 jd n3 c3 u1 (HTd.out.at HU_wd_u1.out) (HA.out.below HU_wd_u1.out) (HXd.out.below HU_wd_u1.out) (by omega) (by omega)).mono ?_
  rintro e' u2 ⟨q1, rfl, hE, hb⟩
  have HU_u1_u2 := Lib.hid hb
  have HE1 := Lib.hid hE.any
  clear hE
  have HU_wd_u2 := Lib.hid (HU_wd_u1.out.trans (HU_u1_u2.out.mono HU_wd_u1.out.size))
  refine hK.out _ _ HU_u1_u2.out (fun _ => ?_)
  clear hK
  try simp only [List.getElem_toArray, List.getElem_cons_succ, List.getElem_cons_zero, Act.put, List.setIfInBounds_toArray, List.set_cons_zero, List.set_cons_succ]
  have HSu2 : Hid (Below u2.heap.size u2 u2) := Lib.hid (Below.refl _ _)
  refine Sha.wpAnyH_more (S' := fun W => Below u2.heap.size u2 W) (fun W h => HU_u1_u2.out.trans (h.mono HU_u1_u2.out.size)) _ _ _ _ ?_
  refine wpAnyH_ready (rs := [17]) (by kernel_rfl) (by simp) ?_
  refine AllReadyH.cons rfl (fun K' hK => ?_) AllReadyH.nil
  simp only [List.getElem_toArray, List.getElem_cons_succ, List.getElem_cons_zero]
  go_simp
  refine (rderive_any JA C j x 32 jd n3 c3 u2 (HA.out.below HU_wd_u2.out) (HXd.out.below HU_wd_u2.out) (by omega) (by omega)).mono ?_
  rintro e' u3 ⟨q2, rfl, hE, hb⟩
  have HU_u2_u3 := Lib.hid hb
  have HE2 := Lib.hid hE.any; have HE1' := Lib.hid (HE1.out.below hb)
  clear hE
  have HU_u1_u3 := Lib.hid (HU_u1_u2.out.trans (HU_u2_u3.out.mono HU_u1_u2.out.size))
  have HU_wd_u3 := Lib.hid (HU_wd_u2.out.trans (HU_u2_u3.out.mono HU_wd_u2.out.size))
  refine hK.out _ _ HU_u2_u3.out (fun _ => ?_)
  clear hK
  try simp only [List.getElem_toArray, List.getElem_cons_succ, List.getElem_cons_zero, Act.put, List.setIfInBounds_toArray, List.set_cons_zero, List.set_cons_succ]
  have HSu3 : Hid (Below u3.heap.size u3 u3) := Lib.hid (Below.refl _ _)
  refine Sha.wpAnyH_more (S' := fun W => Below u3.heap.size u3 W) (fun W h => HU_u2_u3.out.trans (h.mono HU_u2_u3.out.size)) _ _ _ _ ?_
  refine wpAnyH_ready (rs := [18]) (by kernel_rfl) (by simp) ?_
  refine AllReadyH.cons rfl (fun K' hK => ?_) AllReadyH.nil
  simp only [List.getElem_toArray, List.getElem_cons_succ, List.getElem_cons_zero]
  go_simp
  refine (same_true q1 q2 (ep j x) u3 HE1'.out HE2.out).mono ?_
  rintro e' u4 ⟨rfl, hb⟩
  have HU_u3_u4 := Lib.hid hb
  have HU_u2_u4 := Lib.hid (HU_u2_u3.out.trans (HU_u3_u4.out.mono HU_u2_u3.out.size))
  have HU_u1_u4 := Lib.hid (HU_u1_u3.out.trans (HU_u3_u4.out.mono HU_u1_u3.out.size))
  have HU_wd_u4 := Lib.hid (HU_wd_u3.out.trans (HU_u3_u4.out.mono HU_wd_u3.out.size))
  refine hK.out _ _ HU_u3_u4.out (fun _ => ?_)
  clear hK
  try simp only [List.getElem_toArray, List.getElem_cons_succ, List.getElem_cons_zero, Act.put, List.setIfInBounds_toArray, List.set_cons_zero, List.set_cons_succ]
  have HSu4 : Hid (Below u4.heap.size u4 u4) := Lib.hid (Below.refl _ _)
  refine Sha.wpAnyH_more (S' := fun W => Below u4.heap.size u4 W) (fun W h => HU_u3_u4.out.trans (h.mono HU_u3_u4.out.size)) _ _ _ _ ?_
  refine wpAnyH_take (i := 19) (v := ?ve16) rfl (by kernel_rfl) (by kernel_rfl) (by kernel_rfl) (fun _ _ _ h => h) (Or.inl ⟨by rfl, ?ye16⟩) HSu4.out ?re16
  case ye16 => (intro w' hSw; clear hSw; go_simp; try with_reducible rfl)
  simp only [List.getElem_toArray, List.getElem_cons_succ, List.getElem_cons_zero, Act.put, List.setIfInBounds_toArray, List.set_cons_zero, List.set_cons_succ]
  refine wpAnyH_take (i := 20) (v := ?ve17) rfl (by kernel_rfl) (by kernel_rfl) (by kernel_rfl) (fun _ _ _ h => h) (Or.inl ⟨by rfl, ?ye17⟩) HSu4.out ?re17
  case ye17 => (intro w' hSw; clear hSw; go_simp; try with_reducible rfl)
  simp only [List.getElem_toArray, List.getElem_cons_succ, List.getElem_cons_zero, Act.put, List.setIfInBounds_toArray, List.set_cons_zero, List.set_cons_succ]
  refine wpAnyH_take (i := 21) (v := ?ve18) rfl (by kernel_rfl) (by kernel_rfl) (by kernel_rfl) (fun _ _ _ h => h) (Or.inl ⟨by rfl, ?ye18⟩) HSu4.out ?re18
  case ye18 => (intro w' hSw; clear hSw; go_simp; try with_reducible rfl)
  simp only [List.getElem_toArray, List.getElem_cons_succ, List.getElem_cons_zero, Act.put, List.setIfInBounds_toArray, List.set_cons_zero, List.set_cons_succ]
  refine wpAnyH_take (i := 22) (v := ?ve19) rfl (by kernel_rfl) (by kernel_rfl) (by kernel_rfl) (fun _ _ _ h => h) (Or.inl ⟨by rfl, ?ye19⟩) HSu4.out ?re19
  case ye19 => (intro w' hSw; clear hSw; go_simp; try with_reducible rfl)
  simp only [List.getElem_toArray, List.getElem_cons_succ, List.getElem_cons_zero, Act.put, List.setIfInBounds_toArray, List.set_cons_zero, List.set_cons_succ]
  refine wpAnyH_take (i := 24) (v := ?ve20) rfl (by kernel_rfl) (by kernel_rfl) (by kernel_rfl) (fun _ _ _ h => h) (Or.inl ⟨by rfl, ?ye20⟩) HSu4.out ?re20
  case ye20 => (intro w' hSw; clear hSw; go_simp; try with_reducible rfl)
  simp only [List.getElem_toArray, List.getElem_cons_succ, List.getElem_cons_zero, Act.put, List.setIfInBounds_toArray, List.set_cons_zero, List.set_cons_succ]
  refine wpAnyH_take (i := 25) (v := ?ve21) rfl (by kernel_rfl) (by kernel_rfl) (by kernel_rfl) (fun _ _ _ h => h) (Or.inl ⟨by rfl, ?ye21⟩) HSu4.out ?re21
  case ye21 => (intro w' hSw; clear hSw; go_simp; try with_reducible rfl)
  simp only [List.getElem_toArray, List.getElem_cons_succ, List.getElem_cons_zero, Act.put, List.setIfInBounds_toArray, List.set_cons_zero, List.set_cons_succ]
  refine wpAnyH_ready (rs := [23]) (by kernel_rfl) (by simp) ?_
  refine AllReadyH.cons rfl (fun K' hK => ?_) AllReadyH.nil
  simp only [List.getElem_toArray, List.getElem_cons_succ, List.getElem_cons_zero]
  go_simp
  refine (derive_any A B i c n1 c1 n2 c2 u4 (HTd.out.at HU_wd_u4.out) (HId.out.below HU_wd_u4.out) (HCd.out.below HU_wd_u4.out) (by omega) (by omega)).mono ?_
  rintro e' u5 ⟨q3, rfl, hE, hb⟩
  have HU_u4_u5 := Lib.hid hb
  have HE3 := Lib.hid hE.any
  clear hE
  have HU_u3_u5 := Lib.hid (HU_u3_u4.out.trans (HU_u4_u5.out.mono HU_u3_u4.out.size))
  have HU_u2_u5 := Lib.hid (HU_u2_u4.out.trans (HU_u4_u5.out.mono HU_u2_u4.out.size))
  have HU_u1_u5 := Lib.hid (HU_u1_u4.out.trans (HU_u4_u5.out.mono HU_u1_u4.out.size))
  have HU_wd_u5 := Lib.hid (HU_wd_u4.out.trans (HU_u4_u5.out.mono HU_wd_u4.out.size))
  refine hK.out _ _ HU_u4_u5.out (fun _ => ?_)
  clear hK
  try simp only [List.getElem_toArray, List.getElem_cons_succ, List.getElem_cons_zero, Act.put, List.setIfInBounds_toArray, List.set_cons_zero, List.set_cons_succ]
  have HSu5 : Hid (Below u5.heap.size u5 u5) := Lib.hid (Below.refl _ _)
  refine Sha.wpAnyH_more (S' := fun W => Below u5.heap.size u5 W) (fun W h => HU_u4_u5.out.trans (h.mono HU_u4_u5.out.size)) _ _ _ _ ?_
  refine wpAnyH_ready (rs := [26]) (by kernel_rfl) (by simp) ?_
  refine AllReadyH.cons rfl (fun K' hK => ?_) AllReadyH.nil
  simp only [List.getElem_toArray, List.getElem_cons_succ, List.getElem_cons_zero]
  go_simp
  refine (rderive_any A B i c n1 c1 n2 c2 u5 (HId.out.below HU_wd_u5.out) (HCd.out.below HU_wd_u5.out) (by omega) (by omega)).mono ?_
  rintro e' u6 ⟨q4, rfl, hE, hb⟩
  have HU_u5_u6 := Lib.hid hb
  have HE4 := Lib.hid hE.any; have HE3' := Lib.hid (HE3.out.below hb)
  clear hE
  have HU_u4_u6 := Lib.hid (HU_u4_u5.out.trans (HU_u5_u6.out.mono HU_u4_u5.out.size))
  have HU_u3_u6 := Lib.hid (HU_u3_u5.out.trans (HU_u5_u6.out.mono HU_u3_u5.out.size))
  have HU_u2_u6 := Lib.hid (HU_u2_u5.out.trans (HU_u5_u6.out.mono HU_u2_u5.out.size))
  have HU_u1_u6 := Lib.hid (HU_u1_u5.out.trans (HU_u5_u6.out.mono HU_u1_u5.out.size))
  have HU_wd_u6 := Lib.hid (HU_wd_u5.out.trans (HU_u5_u6.out.mono HU_wd_u5.out.size))
  refine hK.out _ _ HU_u5_u6.out (fun _ => ?_)
  clear hK
  try simp only [List.getElem_toArray, List.getElem_cons_succ, List.getElem_cons_zero, Act.put, List.setIfInBounds_toArray, List.set_cons_zero, List.set_cons_succ]
  have HSu6 : Hid (Below u6.heap.size u6 u6) := Lib.hid (Below.refl _ _)
  refine Sha.wpAnyH_more (S' := fun W => Below u6.heap.size u6 W) (fun W h => HU_u5_u6.out.trans (h.mono HU_u5_u6.out.size)) _ _ _ _ ?_
  refine wpAnyH_ready (rs := [27]) (by kernel_rfl) (by simp) ?_
  refine AllReadyH.cons rfl (fun K' hK => ?_) AllReadyH.nil
  simp only [List.getElem_toArray, List.getElem_cons_succ, List.getElem_cons_zero]
  go_simp
  refine (same_true q3 q4 (ep i c) u6 HE3'.out HE4.out).mono ?_
  rintro e' u7 ⟨rfl, hb⟩
  have HU_u6_u7 := Lib.hid hb
  have HU_u5_u7 := Lib.hid (HU_u5_u6.out.trans (HU_u6_u7.out.mono HU_u5_u6.out.size))
  have HU_u4_u7 := Lib.hid (HU_u4_u6.out.trans (HU_u6_u7.out.mono HU_u4_u6.out.size))
  have HU_u3_u7 := Lib.hid (HU_u3_u6.out.trans (HU_u6_u7.out.mono HU_u3_u6.out.size))
  have HU_u2_u7 := Lib.hid (HU_u2_u6.out.trans (HU_u6_u7.out.mono HU_u2_u6.out.size))
  have HU_u1_u7 := Lib.hid (HU_u1_u6.out.trans (HU_u6_u7.out.mono HU_u1_u6.out.size))
  have HU_wd_u7 := Lib.hid (HU_wd_u6.out.trans (HU_u6_u7.out.mono HU_wd_u6.out.size))
  refine hK.out _ _ HU_u6_u7.out (fun _ => ?_)
  clear hK
  try simp only [List.getElem_toArray, List.getElem_cons_succ, List.getElem_cons_zero, Act.put, List.setIfInBounds_toArray, List.set_cons_zero, List.set_cons_succ]
  have HSu7 : Hid (Below u7.heap.size u7 u7) := Lib.hid (Below.refl _ _)
  refine Sha.wpAnyH_more (S' := fun W => Below u7.heap.size u7 W) (fun W h => HU_u6_u7.out.trans (h.mono HU_u6_u7.out.size)) _ _ _ _ ?_
  refine wpAnyH_take (i := 28) (v := ?ve22) rfl (by kernel_rfl) (by kernel_rfl) (by kernel_rfl) (fun _ _ _ h => h) (Or.inl ⟨by rfl, ?ye22⟩) HSu7.out ?re22
  case ye22 => (intro w' hSw; clear hSw; go_simp; try with_reducible rfl)
  simp only [List.getElem_toArray, List.getElem_cons_succ, List.getElem_cons_zero, Act.put, List.setIfInBounds_toArray, List.set_cons_zero, List.set_cons_succ]
  refine wpAnyH_take (i := 29) (v := ?ve23) rfl (by kernel_rfl) (by kernel_rfl) (by kernel_rfl) (fun _ _ _ h => h) (Or.inl ⟨by rfl, ?ye23⟩) HSu7.out ?re23
  case ye23 => (intro w' hSw; clear hSw; go_simp; try with_reducible rfl)
  simp only [List.getElem_toArray, List.getElem_cons_succ, List.getElem_cons_zero, Act.put, List.setIfInBounds_toArray, List.set_cons_zero, List.set_cons_succ]
  refine wpAnyH_done (by kernel_rfl) ?_ _
  change Exit.then _ _ Exit.normal _ _
  go_wp2
  go_ret
  exact ⟨rfl, B4.out.trans (HU_wd_u7.out.mono B4.out.size)⟩
end Go.Proofs.YtikafijdfgkgkaaDoor.Sc
