/- RtreeTells: the walk. Written by tools/mk_rttells2.py. -/
import Derived.Test.YtophnoaneoeiaaaGreatDoorRtRefT
import Derived.Test.YtophnoaneoeiaaaGreatDoorRtRefW
import Derived.Test.YtophnoaneoeiaaaGreatDoorRtGreat
namespace Go.Proofs.YtophnoaneoeiaaaGreatDoor.Rt
set_option linter.all false
open Go.RowKit Wr

set_option maxHeartbeats 8000000 in
set_option maxRecDepth 100000 in
theorem rtreeTells_walk (D : Int) (A : Option Addr) (n c : Nat) (ns : List Nd) (re im : Nat) (w : World) (hT : Tabs w) (hN : Nodes Any Any w A n c ns) (w1 : (Lit.float .f64 re).wf = true) (w2 : (Lit.float .f64 im).wf = true) :
    Calls Tryz.prog 3 #[.agg #[.int .i64 D, .slice A n c], .float .f64 re, .float .f64 im] w fun x w' => x = .returned (.bool true) ∧ Below w.heap.size w w' := by
  obtain ⟨o, ho⟩ := Sp.is_any re im (by simpa [Lit.wf] using w1) (by simpa [Lit.wf] using w2)
  obtain ⟨W0, hW0, g1, hB0⟩ := one_new w D A n c
  have B0 := Lib.hid hB0
  have HN := Lib.hid (hN.below hB0); have HT := Lib.hid (hT.below hB0)
  have HG := Lib.hid g1; have HL := Lib.hid g1.lt; have HO := Lib.hid ho
  clear hN hT g1 hB0 w1 w2 ho
  obtain ⟨b, hb⟩ : ∃ b : Bool, b = true ↔ RightT D ns := ⟨@decide (RightT D ns) (Classical.propDecidable _), by simp⟩
  have HBR := Lib.hid hb
  clear hb
  go_enter Tryz.func3, Tryz.ntmps3
  go_wp2_with fail
  refine (head_true _ HT.out).mono ?_
  rintro e' w1 ⟨rfl, hb⟩
  have HC1 := Lib.hid hb
  clear hb
  obtain ⟨s0, s1⟩ := (HG.out.below HC1.out HL.out).cs
  go_wp2_with fail
  refine (great_any D A n c ns _ (HN.out.below HC1.out)).mono ?_
  rintro e' w2 ⟨⟨bg, rfl⟩, hb⟩
  have HC2 := Lib.hid (HC1.out.trans (hb.mono HC1.out.size))
  clear hb s0 s1
  obtain ⟨s0, s1⟩ := (HG.out.below HC2.out HL.out).cs
  cases bg
  case true =>
    go_wp2
    go_ret
    exact ⟨rfl, B0.out.trans (HC2.out.mono B0.out.size)⟩
  go_wp2_with fail
  refine (leaves_any D A n c ns _ (HN.out.below HC2.out) (HT.out.below HC2.out).sp).mono ?_
  rintro e' w4 ⟨AL, nl, cl, rfl, hX, hb⟩
  have HC4 := Lib.hid (HC2.out.trans (hb.mono HC2.out.size)); have HLV4 := Lib.hid hX.any
  clear hb hX s0 s1
  obtain ⟨s0, s1⟩ := (HG.out.below HC4.out HL.out).cs
  go_wp2_with fail
  refine (resolve_any D A n c ns re im o _ (HN.out.below HC4.out) (HT.out.below HC4.out).sp HO.out).mono ?_
  rintro e' w5 ⟨AR, nr, cr, rfl, hX, hb⟩
  have HC5 := Lib.hid (HC4.out.trans (hb.mono HC4.out.size)); have HRV := Lib.hid hX.any; have HLV := Lib.hid (HLV4.out.below hb)
  clear hb hX s0 s1 HLV4
  have HCd : Hid (Below W0.heap.size W0 w5.drew) := Lib.hid HC5.out.drew
  have HED : Hid (Below w5.heap.size w5 w5.drew) := Lib.hid (Below.refl _ _).drew
  go_wp2_with fail
  try simp only [Act.put]
  refine Wr.region_calm ?_
  refine wp_region_any (by kernel_rfl) ?_
  change wpAny _ _ _ _ _ _ _ (World.drew w5)
  generalize World.drew w5 = wd at *
  have HSwd : Hid (Below wd.heap.size wd wd) := Lib.hid (Below.refl _ _)
  refine wpAny_of_held (S := fun W => Below wd.heap.size wd W) _ _ _ _ ?_
  refine wpAnyH_take (i := 0) (v := ?ve1) rfl (by kernel_rfl) (by kernel_rfl) (by kernel_rfl) (fun _ _ _ h => h) (Or.inl ⟨by rfl, ?ye1⟩) HSwd.out ?re1
  case ye1 => (intro w' hSw; clear hSw; go_simp; try with_reducible rfl)
  simp only [List.getElem_toArray, List.getElem_cons_succ, List.getElem_cons_zero, Act.put, List.setIfInBounds_toArray, List.set_cons_zero, List.set_cons_succ]
  refine wpAnyH_take (i := 1) (v := ?ve2) rfl (by kernel_rfl) (by kernel_rfl) (by kernel_rfl) (fun _ _ _ h => h) (Or.inl ⟨by rfl, ?ye2⟩) HSwd.out ?re2
  case ye2 => (intro w' hSw; clear hSw; go_simp; try with_reducible rfl)
  simp only [List.getElem_toArray, List.getElem_cons_succ, List.getElem_cons_zero, Act.put, List.setIfInBounds_toArray, List.set_cons_zero, List.set_cons_succ]
  refine wpAnyH_take (i := 2) (v := ?ve3) rfl (by kernel_rfl) (by kernel_rfl) (by kernel_rfl) (fun _ _ _ h => h) (Or.inl ⟨by rfl, ?ye3⟩) HSwd.out ?re3
  case ye3 => (intro w' hSw; have hq_wd : Below wd.heap.size wd w' := hSw; have hq := hq_wd; obtain ⟨s0, s1⟩ := (HG.out.below (HCd.out.trans (hq.mono HCd.out.size)) HL.out).cs; clear hSw; try clear hq hq_wd; go_simp; try with_reducible rfl)
  simp only [List.getElem_toArray, List.getElem_cons_succ, List.getElem_cons_zero, Act.put, List.setIfInBounds_toArray, List.set_cons_zero, List.set_cons_succ]
  refine wpAnyH_take (i := 4) (v := ?ve4) rfl (by kernel_rfl) (by kernel_rfl) (by kernel_rfl) (fun _ _ _ h => h) (Or.inl ⟨by rfl, ?ye4⟩) HSwd.out ?re4
  case ye4 => (intro w' hSw; have hq_wd : Below wd.heap.size wd w' := hSw; have hq := hq_wd; obtain ⟨s0, s1⟩ := (HG.out.below (HCd.out.trans (hq.mono HCd.out.size)) HL.out).cs; clear hSw; try clear hq hq_wd; go_simp; try with_reducible rfl)
  simp only [List.getElem_toArray, List.getElem_cons_succ, List.getElem_cons_zero, Act.put, List.setIfInBounds_toArray, List.set_cons_zero, List.set_cons_succ]
  refine wpAnyH_ready (rs := [3]) (by kernel_rfl) (by simp) ?_
  refine AllReadyH.cons rfl (fun K' hK => ?_) AllReadyH.nil
  simp only [List.getElem_toArray, List.getElem_cons_succ, List.getElem_cons_zero]
  go_simp
  refine (right_is D A n c ns b wd (HN.out.below HCd.out) (HT.out.below HCd.out).sp HBR.out).mono ?_
  rintro e' u1 ⟨rfl, hb⟩
  have HU_wd_u1 := Lib.hid hb
  clear hb
  refine hK.out _ _ HU_wd_u1.out (fun _ => ?_)
  clear hK
  try simp only [List.getElem_toArray, List.getElem_cons_succ, List.getElem_cons_zero, Act.put, List.setIfInBounds_toArray, List.set_cons_zero, List.set_cons_succ]
  have HSu1 : Hid (Below u1.heap.size u1 u1) := Lib.hid (Below.refl _ _)
  refine Sha.wpAnyH_more (S' := fun W => Below u1.heap.size u1 W) (fun W h => HU_wd_u1.out.trans (h.mono HU_wd_u1.out.size)) _ _ _ _ ?_
  refine wpAnyH_ready (rs := [5]) (by kernel_rfl) (by simp) ?_
  refine AllReadyH.cons rfl (fun K' hK => ?_) AllReadyH.nil
  simp only [List.getElem_toArray, List.getElem_cons_succ, List.getElem_cons_zero]
  go_simp
  refine (refRight_is D A n c ns b u1 (HN.out.below (HCd.out.trans (HU_wd_u1.out.mono HCd.out.size))) HBR.out).mono ?_
  rintro e' u2 ⟨rfl, hb⟩
  have HU_u1_u2 := Lib.hid hb
  clear hb
  have HU_wd_u2 := Lib.hid (HU_wd_u1.out.trans (HU_u1_u2.out.mono HU_wd_u1.out.size))
  refine hK.out _ _ HU_u1_u2.out (fun _ => ?_)
  clear hK
  try simp only [List.getElem_toArray, List.getElem_cons_succ, List.getElem_cons_zero, Act.put, List.setIfInBounds_toArray, List.set_cons_zero, List.set_cons_succ]
  have HSu2 : Hid (Below u2.heap.size u2 u2) := Lib.hid (Below.refl _ _)
  refine Sha.wpAnyH_more (S' := fun W => Below u2.heap.size u2 W) (fun W h => HU_u1_u2.out.trans (h.mono HU_u1_u2.out.size)) _ _ _ _ ?_
  refine wpAnyH_take (i := 6) (v := ?ve5) rfl (by kernel_rfl) (by kernel_rfl) (by kernel_rfl) (fun _ _ _ h => h) (Or.inl ⟨by rfl, ?ye5⟩) HSu2.out ?re5
  case ye5 => (intro w' hSw; clear hSw; go_simp; try with_reducible rfl)
  simp only [List.getElem_toArray, List.getElem_cons_succ, List.getElem_cons_zero, Act.put, List.setIfInBounds_toArray, List.set_cons_zero, List.set_cons_succ]
  refine wpAnyH_take (i := 7) (v := ?ve6) rfl (by kernel_rfl) (by kernel_rfl) (by kernel_rfl) (fun _ _ _ h => h) (Or.inl ⟨by rfl, ?ye6⟩) HSu2.out ?re6
  case ye6 => (intro w' hSw; clear hSw; go_simp; try with_reducible rfl)
  simp only [List.getElem_toArray, List.getElem_cons_succ, List.getElem_cons_zero, Act.put, List.setIfInBounds_toArray, List.set_cons_zero, List.set_cons_succ]
  refine wpAnyH_take (i := 8) (v := ?ve7) rfl (by kernel_rfl) (by kernel_rfl) (by kernel_rfl) (fun _ _ _ h => h) (Or.inl ⟨by rfl, ?ye7⟩) HSu2.out ?re7
  case ye7 => (intro w' hSw; clear hSw; go_simp; try with_reducible rfl)
  simp only [List.getElem_toArray, List.getElem_cons_succ, List.getElem_cons_zero, Act.put, List.setIfInBounds_toArray, List.set_cons_zero, List.set_cons_succ]
  refine wpAnyH_take (i := 9) (v := ?ve8) rfl (by kernel_rfl) (by kernel_rfl) (by kernel_rfl) (fun _ _ _ h => h) (Or.inl ⟨by rfl, ?ye8⟩) HSu2.out ?re8
  case ye8 => (intro w' hSw; clear hSw; go_simp; try with_reducible rfl)
  simp only [List.getElem_toArray, List.getElem_cons_succ, List.getElem_cons_zero, Act.put, List.setIfInBounds_toArray, List.set_cons_zero, List.set_cons_succ]
  refine wpAnyH_take (i := 10) (v := ?ve9) rfl (by kernel_rfl) (by kernel_rfl) (by kernel_rfl) (fun _ _ _ h => h) (Or.inl ⟨by rfl, ?ye9⟩) HSu2.out ?re9
  case ye9 => (intro w' hSw; have hq_u2 : Below u2.heap.size u2 w' := hSw; have hq_u1 : Below u1.heap.size u1 w' := HU_u1_u2.out.trans (hSw.mono HU_u1_u2.out.size); have hq_wd : Below wd.heap.size wd w' := HU_wd_u2.out.trans (hSw.mono HU_wd_u2.out.size); have hq := hq_wd; obtain ⟨s0, s1⟩ := (HG.out.below (HCd.out.trans (hq.mono HCd.out.size)) HL.out).cs; clear hSw; try clear hq hq_wd hq_u1 hq_u2; go_simp; try with_reducible rfl)
  simp only [List.getElem_toArray, List.getElem_cons_succ, List.getElem_cons_zero, Act.put, List.setIfInBounds_toArray, List.set_cons_zero, List.set_cons_succ]
  refine wpAnyH_ready (rs := [11]) (by kernel_rfl) (by simp) ?_
  refine AllReadyH.cons rfl (fun K' hK => ?_) AllReadyH.nil
  simp only [List.getElem_toArray, List.getElem_cons_succ, List.getElem_cons_zero]
  go_simp
  refine (refLeaves_any D A n c ns u2 (HN.out.below (HCd.out.trans (HU_wd_u2.out.mono HCd.out.size)))).mono ?_
  rintro e' u3 ⟨X1, m1, x1, rfl, hX, hb⟩
  have HU_u2_u3 := Lib.hid hb
  have HX1 := Lib.hid hX.any; clear hb hX
  have HU_u1_u3 := Lib.hid (HU_u1_u2.out.trans (HU_u2_u3.out.mono HU_u1_u2.out.size))
  have HU_wd_u3 := Lib.hid (HU_wd_u2.out.trans (HU_u2_u3.out.mono HU_wd_u2.out.size))
  refine hK.out _ _ HU_u2_u3.out (fun _ => ?_)
  clear hK
  try simp only [List.getElem_toArray, List.getElem_cons_succ, List.getElem_cons_zero, Act.put, List.setIfInBounds_toArray, List.set_cons_zero, List.set_cons_succ]
  have HSu3 : Hid (Below u3.heap.size u3 u3) := Lib.hid (Below.refl _ _)
  refine Sha.wpAnyH_more (S' := fun W => Below u3.heap.size u3 W) (fun W h => HU_u2_u3.out.trans (h.mono HU_u2_u3.out.size)) _ _ _ _ ?_
  refine wpAnyH_ready (rs := [12]) (by kernel_rfl) (by simp) ?_
  refine AllReadyH.cons rfl (fun K' hK => ?_) AllReadyH.nil
  simp only [List.getElem_toArray, List.getElem_cons_succ, List.getElem_cons_zero]
  go_simp
  refine (sameInts_is AL X1 nl m1 cl x1 _ _ true u3 (HLV.out.below (HED.out.trans (HU_wd_u3.out.mono HED.out.size))) HX1.out (by simp)).mono ?_
  rintro e' u4 ⟨rfl, hb⟩
  have HU_u3_u4 := Lib.hid hb
  clear hb
  have HU_u2_u4 := Lib.hid (HU_u2_u3.out.trans (HU_u3_u4.out.mono HU_u2_u3.out.size))
  have HU_u1_u4 := Lib.hid (HU_u1_u3.out.trans (HU_u3_u4.out.mono HU_u1_u3.out.size))
  have HU_wd_u4 := Lib.hid (HU_wd_u3.out.trans (HU_u3_u4.out.mono HU_wd_u3.out.size))
  refine hK.out _ _ HU_u3_u4.out (fun _ => ?_)
  clear hK
  try simp only [List.getElem_toArray, List.getElem_cons_succ, List.getElem_cons_zero, Act.put, List.setIfInBounds_toArray, List.set_cons_zero, List.set_cons_succ]
  have HSu4 : Hid (Below u4.heap.size u4 u4) := Lib.hid (Below.refl _ _)
  refine Sha.wpAnyH_more (S' := fun W => Below u4.heap.size u4 W) (fun W h => HU_u3_u4.out.trans (h.mono HU_u3_u4.out.size)) _ _ _ _ ?_
  refine wpAnyH_take (i := 13) (v := ?ve10) rfl (by kernel_rfl) (by kernel_rfl) (by kernel_rfl) (fun _ _ _ h => h) (Or.inl ⟨by rfl, ?ye10⟩) HSu4.out ?re10
  case ye10 => (intro w' hSw; clear hSw; go_simp; try with_reducible rfl)
  simp only [List.getElem_toArray, List.getElem_cons_succ, List.getElem_cons_zero, Act.put, List.setIfInBounds_toArray, List.set_cons_zero, List.set_cons_succ]
  refine wpAnyH_take (i := 14) (v := ?ve11) rfl (by kernel_rfl) (by kernel_rfl) (by kernel_rfl) (fun _ _ _ h => h) (Or.inl ⟨by rfl, ?ye11⟩) HSu4.out ?re11
  case ye11 => (intro w' hSw; clear hSw; go_simp; try with_reducible rfl)
  simp only [List.getElem_toArray, List.getElem_cons_succ, List.getElem_cons_zero, Act.put, List.setIfInBounds_toArray, List.set_cons_zero, List.set_cons_succ]
  refine wpAnyH_take (i := 15) (v := ?ve12) rfl (by kernel_rfl) (by kernel_rfl) (by kernel_rfl) (fun _ _ _ h => h) (Or.inl ⟨by rfl, ?ye12⟩) HSu4.out ?re12
  case ye12 => (intro w' hSw; clear hSw; go_simp; try with_reducible rfl)
  simp only [List.getElem_toArray, List.getElem_cons_succ, List.getElem_cons_zero, Act.put, List.setIfInBounds_toArray, List.set_cons_zero, List.set_cons_succ]
  refine wpAnyH_take (i := 16) (v := ?ve13) rfl (by kernel_rfl) (by kernel_rfl) (by kernel_rfl) (fun _ _ _ h => h) (Or.inl ⟨by rfl, ?ye13⟩) HSu4.out ?re13
  case ye13 => (intro w' hSw; have hq_u4 : Below u4.heap.size u4 w' := hSw; have hq_u3 : Below u3.heap.size u3 w' := HU_u3_u4.out.trans (hSw.mono HU_u3_u4.out.size); have hq_u2 : Below u2.heap.size u2 w' := HU_u2_u4.out.trans (hSw.mono HU_u2_u4.out.size); have hq_u1 : Below u1.heap.size u1 w' := HU_u1_u4.out.trans (hSw.mono HU_u1_u4.out.size); have hq_wd : Below wd.heap.size wd w' := HU_wd_u4.out.trans (hSw.mono HU_wd_u4.out.size); have hq := hq_wd; obtain ⟨s0, s1⟩ := (HG.out.below (HCd.out.trans (hq.mono HCd.out.size)) HL.out).cs; clear hSw; try clear hq hq_wd hq_u1 hq_u2 hq_u3 hq_u4; go_simp; try with_reducible rfl)
  simp only [List.getElem_toArray, List.getElem_cons_succ, List.getElem_cons_zero, Act.put, List.setIfInBounds_toArray, List.set_cons_zero, List.set_cons_succ]
  refine wpAnyH_take (i := 17) (v := ?ve14) rfl (by kernel_rfl) (by kernel_rfl) (by kernel_rfl) (fun _ _ _ h => h) (Or.inl ⟨by rfl, ?ye14⟩) HSu4.out ?re14
  case ye14 => (intro w' hSw; clear hSw; go_simp; try with_reducible rfl)
  simp only [List.getElem_toArray, List.getElem_cons_succ, List.getElem_cons_zero, Act.put, List.setIfInBounds_toArray, List.set_cons_zero, List.set_cons_succ]
  refine wpAnyH_ready (rs := [18]) (by kernel_rfl) (by simp) ?_
  refine AllReadyH.cons rfl (fun K' hK => ?_) AllReadyH.nil
  simp only [List.getElem_toArray, List.getElem_cons_succ, List.getElem_cons_zero]
  go_simp
  refine (refResolve_any D A n c ns re im o u4 (HN.out.below (HCd.out.trans (HU_wd_u4.out.mono HCd.out.size))) HO.out).mono ?_
  rintro e' u5 ⟨X2, m2, x2, rfl, hX, hb⟩
  have HU_u4_u5 := Lib.hid hb
  have HX2 := Lib.hid hX.any; clear hb hX
  have HU_u3_u5 := Lib.hid (HU_u3_u4.out.trans (HU_u4_u5.out.mono HU_u3_u4.out.size))
  have HU_u2_u5 := Lib.hid (HU_u2_u4.out.trans (HU_u4_u5.out.mono HU_u2_u4.out.size))
  have HU_u1_u5 := Lib.hid (HU_u1_u4.out.trans (HU_u4_u5.out.mono HU_u1_u4.out.size))
  have HU_wd_u5 := Lib.hid (HU_wd_u4.out.trans (HU_u4_u5.out.mono HU_wd_u4.out.size))
  refine hK.out _ _ HU_u4_u5.out (fun _ => ?_)
  clear hK
  try simp only [List.getElem_toArray, List.getElem_cons_succ, List.getElem_cons_zero, Act.put, List.setIfInBounds_toArray, List.set_cons_zero, List.set_cons_succ]
  have HSu5 : Hid (Below u5.heap.size u5 u5) := Lib.hid (Below.refl _ _)
  refine Sha.wpAnyH_more (S' := fun W => Below u5.heap.size u5 W) (fun W h => HU_u4_u5.out.trans (h.mono HU_u4_u5.out.size)) _ _ _ _ ?_
  refine wpAnyH_ready (rs := [19]) (by kernel_rfl) (by simp) ?_
  refine AllReadyH.cons rfl (fun K' hK => ?_) AllReadyH.nil
  simp only [List.getElem_toArray, List.getElem_cons_succ, List.getElem_cons_zero]
  go_simp
  refine (sameInts_is AR X2 nr m2 cr x2 _ _ true u5 (HRV.out.below (HED.out.trans (HU_wd_u5.out.mono HED.out.size))) HX2.out (by simp)).mono ?_
  rintro e' u6 ⟨rfl, hb⟩
  have HU_u5_u6 := Lib.hid hb
  clear hb
  have HU_u4_u6 := Lib.hid (HU_u4_u5.out.trans (HU_u5_u6.out.mono HU_u4_u5.out.size))
  have HU_u3_u6 := Lib.hid (HU_u3_u5.out.trans (HU_u5_u6.out.mono HU_u3_u5.out.size))
  have HU_u2_u6 := Lib.hid (HU_u2_u5.out.trans (HU_u5_u6.out.mono HU_u2_u5.out.size))
  have HU_u1_u6 := Lib.hid (HU_u1_u5.out.trans (HU_u5_u6.out.mono HU_u1_u5.out.size))
  have HU_wd_u6 := Lib.hid (HU_wd_u5.out.trans (HU_u5_u6.out.mono HU_wd_u5.out.size))
  refine hK.out _ _ HU_u5_u6.out (fun _ => ?_)
  clear hK
  try simp only [List.getElem_toArray, List.getElem_cons_succ, List.getElem_cons_zero, Act.put, List.setIfInBounds_toArray, List.set_cons_zero, List.set_cons_succ]
  have HSu6 : Hid (Below u6.heap.size u6 u6) := Lib.hid (Below.refl _ _)
  refine Sha.wpAnyH_more (S' := fun W => Below u6.heap.size u6 W) (fun W h => HU_u5_u6.out.trans (h.mono HU_u5_u6.out.size)) _ _ _ _ ?_
  refine wpAnyH_take (i := 20) (v := ?ve15) rfl (by kernel_rfl) (by kernel_rfl) (by kernel_rfl) (fun _ _ _ h => h) (Or.inl ⟨by rfl, ?ye15⟩) HSu6.out ?re15
  case ye15 => (intro w' hSw; clear hSw; go_simp; try with_reducible rfl)
  simp only [List.getElem_toArray, List.getElem_cons_succ, List.getElem_cons_zero, Act.put, List.setIfInBounds_toArray, List.set_cons_zero, List.set_cons_succ]
  refine wpAnyH_take (i := 21) (v := ?ve16) rfl (by kernel_rfl) (by kernel_rfl) (by kernel_rfl) (fun _ _ _ h => h) (Or.inl ⟨by rfl, ?ye16⟩) HSu6.out ?re16
  case ye16 => (intro w' hSw; clear hSw; go_simp; try with_reducible rfl)
  simp only [List.getElem_toArray, List.getElem_cons_succ, List.getElem_cons_zero, Act.put, List.setIfInBounds_toArray, List.set_cons_zero, List.set_cons_succ]
  refine wpAnyH_take (i := 22) (v := ?ve17) rfl (by kernel_rfl) (by kernel_rfl) (by kernel_rfl) (fun _ _ _ h => h) (Or.inl ⟨by rfl, ?ye17⟩) HSu6.out ?re17
  case ye17 => (intro w' hSw; have hq_u6 : Below u6.heap.size u6 w' := hSw; have hq_u5 : Below u5.heap.size u5 w' := HU_u5_u6.out.trans (hSw.mono HU_u5_u6.out.size); have hq_u4 : Below u4.heap.size u4 w' := HU_u4_u6.out.trans (hSw.mono HU_u4_u6.out.size); have hq_u3 : Below u3.heap.size u3 w' := HU_u3_u6.out.trans (hSw.mono HU_u3_u6.out.size); have hq_u2 : Below u2.heap.size u2 w' := HU_u2_u6.out.trans (hSw.mono HU_u2_u6.out.size); have hq_u1 : Below u1.heap.size u1 w' := HU_u1_u6.out.trans (hSw.mono HU_u1_u6.out.size); have hq_wd : Below wd.heap.size wd w' := HU_wd_u6.out.trans (hSw.mono HU_wd_u6.out.size); have hq := hq_wd; obtain ⟨s0, s1⟩ := (HG.out.below (HCd.out.trans (hq.mono HCd.out.size)) HL.out).cs; clear hSw; try clear hq hq_wd hq_u1 hq_u2 hq_u3 hq_u4 hq_u5 hq_u6; go_simp; try with_reducible rfl)
  simp only [List.getElem_toArray, List.getElem_cons_succ, List.getElem_cons_zero, Act.put, List.setIfInBounds_toArray, List.set_cons_zero, List.set_cons_succ]
  refine wpAnyH_take (i := 23) (v := ?ve18) rfl (by kernel_rfl) (by kernel_rfl) (by kernel_rfl) (fun _ _ _ h => h) (Or.inl ⟨by rfl, ?ye18⟩) HSu6.out ?re18
  case ye18 => (intro w' hSw; clear hSw; go_simp; try with_reducible rfl)
  simp only [List.getElem_toArray, List.getElem_cons_succ, List.getElem_cons_zero, Act.put, List.setIfInBounds_toArray, List.set_cons_zero, List.set_cons_succ]
  refine wpAnyH_take (i := 26) (v := ?ve19) rfl (by kernel_rfl) (by kernel_rfl) (by kernel_rfl) (fun _ _ _ h => h) (Or.inl ⟨by rfl, ?ye19⟩) HSu6.out ?re19
  case ye19 => (intro w' hSw; have hq_u6 : Below u6.heap.size u6 w' := hSw; have hq_u5 : Below u5.heap.size u5 w' := HU_u5_u6.out.trans (hSw.mono HU_u5_u6.out.size); have hq_u4 : Below u4.heap.size u4 w' := HU_u4_u6.out.trans (hSw.mono HU_u4_u6.out.size); have hq_u3 : Below u3.heap.size u3 w' := HU_u3_u6.out.trans (hSw.mono HU_u3_u6.out.size); have hq_u2 : Below u2.heap.size u2 w' := HU_u2_u6.out.trans (hSw.mono HU_u2_u6.out.size); have hq_u1 : Below u1.heap.size u1 w' := HU_u1_u6.out.trans (hSw.mono HU_u1_u6.out.size); have hq_wd : Below wd.heap.size wd w' := HU_wd_u6.out.trans (hSw.mono HU_wd_u6.out.size); have hq := hq_wd; obtain ⟨s0, s1⟩ := (HG.out.below (HCd.out.trans (hq.mono HCd.out.size)) HL.out).cs; clear hSw; try clear hq hq_wd hq_u1 hq_u2 hq_u3 hq_u4 hq_u5 hq_u6; go_simp; try with_reducible rfl)
  simp only [List.getElem_toArray, List.getElem_cons_succ, List.getElem_cons_zero, Act.put, List.setIfInBounds_toArray, List.set_cons_zero, List.set_cons_succ]
  refine wpAnyH_take (i := 27) (v := ?ve20) rfl (by kernel_rfl) (by kernel_rfl) (by kernel_rfl) (fun _ _ _ h => h) (Or.inl ⟨by rfl, ?ye20⟩) HSu6.out ?re20
  case ye20 => (intro w' hSw; clear hSw; go_simp; try with_reducible rfl)
  simp only [List.getElem_toArray, List.getElem_cons_succ, List.getElem_cons_zero, Act.put, List.setIfInBounds_toArray, List.set_cons_zero, List.set_cons_succ]
  refine wpAnyH_ready (rs := [24]) (by kernel_rfl) (by simp) ?_
  refine AllReadyH.cons rfl (fun K' hK => ?_) AllReadyH.nil
  simp only [List.getElem_toArray, List.getElem_cons_succ, List.getElem_cons_zero]
  go_simp
  refine (sum_any D A n c ns re im o u6 (HN.out.below (HCd.out.trans (HU_wd_u6.out.mono HCd.out.size))) (HT.out.below (HCd.out.trans (HU_wd_u6.out.mono HCd.out.size))) HO.out).mono ?_
  rintro e' u7 ⟨X3, m3, x3, rfl, hX, hb⟩
  have HU_u6_u7 := Lib.hid hb
  have HX3 := Lib.hid hX.any; clear hb hX
  have HU_u5_u7 := Lib.hid (HU_u5_u6.out.trans (HU_u6_u7.out.mono HU_u5_u6.out.size))
  have HU_u4_u7 := Lib.hid (HU_u4_u6.out.trans (HU_u6_u7.out.mono HU_u4_u6.out.size))
  have HU_u3_u7 := Lib.hid (HU_u3_u6.out.trans (HU_u6_u7.out.mono HU_u3_u6.out.size))
  have HU_u2_u7 := Lib.hid (HU_u2_u6.out.trans (HU_u6_u7.out.mono HU_u2_u6.out.size))
  have HU_u1_u7 := Lib.hid (HU_u1_u6.out.trans (HU_u6_u7.out.mono HU_u1_u6.out.size))
  have HU_wd_u7 := Lib.hid (HU_wd_u6.out.trans (HU_u6_u7.out.mono HU_wd_u6.out.size))
  refine hK.out _ _ HU_u6_u7.out (fun _ => ?_)
  clear hK
  try simp only [List.getElem_toArray, List.getElem_cons_succ, List.getElem_cons_zero, Act.put, List.setIfInBounds_toArray, List.set_cons_zero, List.set_cons_succ]
  have HSu7 : Hid (Below u7.heap.size u7 u7) := Lib.hid (Below.refl _ _)
  refine Sha.wpAnyH_more (S' := fun W => Below u7.heap.size u7 W) (fun W h => HU_u6_u7.out.trans (h.mono HU_u6_u7.out.size)) _ _ _ _ ?_
  refine wpAnyH_take (i := 25) (v := ?ve21) rfl (by kernel_rfl) (by kernel_rfl) (by kernel_rfl) (fun _ _ _ h => h) (Or.inl ⟨by rfl, ?ye21⟩) HSu7.out ?re21
  case ye21 => (intro w' hSw; have hq_u7 : Below u7.heap.size u7 w' := hSw; have hq_u6 : Below u6.heap.size u6 w' := HU_u6_u7.out.trans (hSw.mono HU_u6_u7.out.size); have hq_u5 : Below u5.heap.size u5 w' := HU_u5_u7.out.trans (hSw.mono HU_u5_u7.out.size); have hq_u4 : Below u4.heap.size u4 w' := HU_u4_u7.out.trans (hSw.mono HU_u4_u7.out.size); have hq_u3 : Below u3.heap.size u3 w' := HU_u3_u7.out.trans (hSw.mono HU_u3_u7.out.size); have hq_u2 : Below u2.heap.size u2 w' := HU_u2_u7.out.trans (hSw.mono HU_u2_u7.out.size); have hq_u1 : Below u1.heap.size u1 w' := HU_u1_u7.out.trans (hSw.mono HU_u1_u7.out.size); have hq_wd : Below wd.heap.size wd w' := HU_wd_u7.out.trans (hSw.mono HU_wd_u7.out.size); have hq := hq_wd; have c1 := (HX3.out.below hq_u7).conv; clear hSw; try clear hq hq_wd hq_u1 hq_u2 hq_u3 hq_u4 hq_u5 hq_u6 hq_u7; go_simp; try with_reducible rfl)
  simp only [List.getElem_toArray, List.getElem_cons_succ, List.getElem_cons_zero, Act.put, List.setIfInBounds_toArray, List.set_cons_zero, List.set_cons_succ]
  refine wpAnyH_ready (rs := [28]) (by kernel_rfl) (by simp) ?_
  refine AllReadyH.cons rfl (fun K' hK => ?_) AllReadyH.nil
  simp only [List.getElem_toArray, List.getElem_cons_succ, List.getElem_cons_zero]
  go_simp
  refine (refSum_any D A n c ns re im o u7 (HN.out.below (HCd.out.trans (HU_wd_u7.out.mono HCd.out.size))) HO.out).mono ?_
  rintro e' u8 ⟨X4, m4, x4, rfl, hX, hb⟩
  have HU_u7_u8 := Lib.hid hb
  have HX4 := Lib.hid hX.any; clear hb hX
  have HU_u6_u8 := Lib.hid (HU_u6_u7.out.trans (HU_u7_u8.out.mono HU_u6_u7.out.size))
  have HU_u5_u8 := Lib.hid (HU_u5_u7.out.trans (HU_u7_u8.out.mono HU_u5_u7.out.size))
  have HU_u4_u8 := Lib.hid (HU_u4_u7.out.trans (HU_u7_u8.out.mono HU_u4_u7.out.size))
  have HU_u3_u8 := Lib.hid (HU_u3_u7.out.trans (HU_u7_u8.out.mono HU_u3_u7.out.size))
  have HU_u2_u8 := Lib.hid (HU_u2_u7.out.trans (HU_u7_u8.out.mono HU_u2_u7.out.size))
  have HU_u1_u8 := Lib.hid (HU_u1_u7.out.trans (HU_u7_u8.out.mono HU_u1_u7.out.size))
  have HU_wd_u8 := Lib.hid (HU_wd_u7.out.trans (HU_u7_u8.out.mono HU_wd_u7.out.size))
  refine hK.out _ _ HU_u7_u8.out (fun _ => ?_)
  clear hK
  try simp only [List.getElem_toArray, List.getElem_cons_succ, List.getElem_cons_zero, Act.put, List.setIfInBounds_toArray, List.set_cons_zero, List.set_cons_succ]
  have HSu8 : Hid (Below u8.heap.size u8 u8) := Lib.hid (Below.refl _ _)
  refine Sha.wpAnyH_more (S' := fun W => Below u8.heap.size u8 W) (fun W h => HU_u7_u8.out.trans (h.mono HU_u7_u8.out.size)) _ _ _ _ ?_
  refine wpAnyH_take (i := 29) (v := ?ve22) rfl (by kernel_rfl) (by kernel_rfl) (by kernel_rfl) (fun _ _ _ h => h) (Or.inl ⟨by rfl, ?ye22⟩) HSu8.out ?re22
  case ye22 => (intro w' hSw; have hq_u8 : Below u8.heap.size u8 w' := hSw; have hq_u7 : Below u7.heap.size u7 w' := HU_u7_u8.out.trans (hSw.mono HU_u7_u8.out.size); have hq_u6 : Below u6.heap.size u6 w' := HU_u6_u8.out.trans (hSw.mono HU_u6_u8.out.size); have hq_u5 : Below u5.heap.size u5 w' := HU_u5_u8.out.trans (hSw.mono HU_u5_u8.out.size); have hq_u4 : Below u4.heap.size u4 w' := HU_u4_u8.out.trans (hSw.mono HU_u4_u8.out.size); have hq_u3 : Below u3.heap.size u3 w' := HU_u3_u8.out.trans (hSw.mono HU_u3_u8.out.size); have hq_u2 : Below u2.heap.size u2 w' := HU_u2_u8.out.trans (hSw.mono HU_u2_u8.out.size); have hq_u1 : Below u1.heap.size u1 w' := HU_u1_u8.out.trans (hSw.mono HU_u1_u8.out.size); have hq_wd : Below wd.heap.size wd w' := HU_wd_u8.out.trans (hSw.mono HU_wd_u8.out.size); have hq := hq_wd; have c2 := (HX4.out.below hq_u8).conv; clear hSw; try clear hq hq_wd hq_u1 hq_u2 hq_u3 hq_u4 hq_u5 hq_u6 hq_u7 hq_u8; go_simp; try with_reducible rfl)
  simp only [List.getElem_toArray, List.getElem_cons_succ, List.getElem_cons_zero, Act.put, List.setIfInBounds_toArray, List.set_cons_zero, List.set_cons_succ]
  refine wpAnyH_take (i := 30) (v := ?ve23) rfl (by kernel_rfl) (by kernel_rfl) (by kernel_rfl) (fun _ _ _ h => h) (Or.inl ⟨by rfl, ?ye23⟩) HSu8.out ?re23
  case ye23 => (intro w' hSw; clear hSw; go_simp; try with_reducible rfl)
  simp only [List.getElem_toArray, List.getElem_cons_succ, List.getElem_cons_zero, Act.put, List.setIfInBounds_toArray, List.set_cons_zero, List.set_cons_succ]
  refine wpAnyH_take (i := 31) (v := ?ve24) rfl (by kernel_rfl) (by kernel_rfl) (by kernel_rfl) (fun _ _ _ h => h) (Or.inl ⟨by rfl, ?ye24⟩) HSu8.out ?re24
  case ye24 => (intro w' hSw; clear hSw; go_simp; try with_reducible rfl)
  simp only [List.getElem_toArray, List.getElem_cons_succ, List.getElem_cons_zero, Act.put, List.setIfInBounds_toArray, List.set_cons_zero, List.set_cons_succ]
  refine wpAnyH_take (i := 32) (v := ?ve25) rfl (by kernel_rfl) (by kernel_rfl) (by kernel_rfl) (fun _ _ _ h => h) (Or.inl ⟨by rfl, ?ye25⟩) HSu8.out ?re25
  case ye25 => (intro w' hSw; clear hSw; go_simp; try with_reducible rfl)
  simp only [List.getElem_toArray, List.getElem_cons_succ, List.getElem_cons_zero, Act.put, List.setIfInBounds_toArray, List.set_cons_zero, List.set_cons_succ]
  refine wpAnyH_done (by kernel_rfl) ?_ _
  change Exit.then _ _ Exit.normal _ _
  go_wp2
  go_ret
  exact ⟨rfl, B0.out.trans ((HCd.out.trans (HU_wd_u8.out.mono HCd.out.size)).mono B0.out.size)⟩
end Go.Proofs.YtophnoaneoeiaaaGreatDoor.Rt
