/- RtreeBound: the walk. Written by tools/mk_rtbound.py. -/
import Derived.Test.YtophnoaneoeiaaaGreatDoorRtClash
import Derived.Test.YtophnoaneoeiaaaGreatDoorRtRefS
import Derived.Test.YtophnoaneoeiaaaGreatDoorRtGreat
namespace Go.Proofs.YtophnoaneoeiaaaGreatDoor.Rt
set_option linter.all false
open Go.RowKit Wr

set_option maxHeartbeats 8000000 in
set_option maxRecDepth 100000 in
theorem rtreeBound_walk (D : Int) (A : Option Addr) (n c : Nat) (ns : List Nd) (E : Int) (B : Option Addr) (m f : Nat) (ms : List Nd) (w : World) (hT : Tabs w) (hN : Nodes Any Any w A n c ns) (hM : Nodes Any Any w B m f ms) :
    Calls Tryz.prog 7 #[.agg #[.int .i64 D, .slice A n c], .agg #[.int .i64 E, .slice B m f]] w fun x w' => x = .returned (.bool true) ∧ Below w.heap.size w w' := by
  obtain ⟨W2, hW2, g1, g2, hB2⟩ := two_trees w D A n c E B m f
  have B2 := Lib.hid hB2
  have HN := Lib.hid (hN.kept hB2.size (fun x _ hx => hB2.block x hx) fun x _ hx => hB2.block x hx); have HM := Lib.hid (hM.kept hB2.size (fun x _ hx => hB2.block x hx) fun x _ hx => hB2.block x hx)
  have HT := Lib.hid (hT.below hB2)
  have HG1 := Lib.hid g1; have HG2 := Lib.hid g2
  have HL1 := Lib.hid g1.lt; have HL2 := Lib.hid g2.lt
  clear hN hM hT g1 g2 hB2
  go_enter Tryz.func7, Tryz.ntmps7
  go_wp2_with fail
  refine (head_true _ HT.out).mono ?_
  rintro e' w1 ⟨rfl, hb1⟩
  have HC1 := Lib.hid hb1
  clear hb1
  obtain ⟨s0, s1⟩ := (HG1.out.below HC1.out HL1.out).cs
  go_wp2_with fail
  refine (great_any D A n c ns _ (HN.out.below HC1.out)).mono ?_
  rintro e' w2 ⟨⟨b, rfl⟩, hb⟩
  have HC2 := Lib.hid (HC1.out.trans (hb.mono HC1.out.size))
  clear hb s0 s1
  obtain ⟨s0, s1⟩ := (HG1.out.below HC2.out HL1.out).cs
  obtain ⟨t0, t1⟩ := (HG2.out.below HC2.out HL2.out).cs
  cases b
  case true =>
    go_wp2
    go_ret
    exact ⟨rfl, B2.out.trans (HC2.out.mono B2.out.size)⟩
  go_wp2_with fail
  refine (great_any E B m f ms _ (HM.out.below HC2.out)).mono ?_
  rintro e' w3 ⟨⟨b, rfl⟩, hb⟩
  have HC3 := Lib.hid (HC2.out.trans (hb.mono HC2.out.size))
  clear hb s0 s1 t0 t1
  obtain ⟨s0, s1⟩ := (HG1.out.below HC3.out HL1.out).cs
  obtain ⟨t0, t1⟩ := (HG2.out.below HC3.out HL2.out).cs
  cases b
  case true =>
    go_wp2
    go_ret
    exact ⟨rfl, B2.out.trans (HC3.out.mono B2.out.size)⟩
  by_cases hD : D > 3
  case pos =>
    go_wp2
    go_ret
    exact ⟨rfl, B2.out.trans (HC3.out.mono B2.out.size)⟩
  by_cases hE : E > 3
  case pos =>
    go_wp2
    go_ret
    exact ⟨rfl, B2.out.trans (HC3.out.mono B2.out.size)⟩
  by_cases hr : RightT D ns
  case neg =>
    go_wp2_with fail
    refine (refRight_is D A n c ns false _ (HN.out.below HC3.out) (by simp [hr])).mono ?_
    rintro e' w4 ⟨rfl, hb⟩
    have HC4 := Lib.hid (HC3.out.trans (hb.mono HC3.out.size))
    clear hb s0 s1 t0 t1
    go_wp2
    go_ret
    exact ⟨rfl, B2.out.trans (HC4.out.mono B2.out.size)⟩
  obtain ⟨d, rfl, hR⟩ := hr
  go_wp2_with fail
  refine (refRight_is d A n c ns true _ (HN.out.below HC3.out) (by simp; exact ⟨d, rfl, hR⟩)).mono ?_
  rintro e' w4 ⟨rfl, hb⟩
  have HC4 := Lib.hid (HC3.out.trans (hb.mono HC3.out.size))
  have HR := Lib.hid hR
  clear hb s0 s1 t0 t1 hR
  obtain ⟨s0, s1⟩ := (HG1.out.below HC4.out HL1.out).cs
  obtain ⟨t0, t1⟩ := (HG2.out.below HC4.out HL2.out).cs
  by_cases hr : RightT E ms
  case neg =>
    go_wp2_with fail
    refine (refRight_is E B m f ms false _ (HM.out.below HC4.out) (by simp [hr])).mono ?_
    rintro e' w5 ⟨rfl, hb⟩
    have HC5 := Lib.hid (HC4.out.trans (hb.mono HC4.out.size))
    clear hb s0 s1 t0 t1
    go_wp2
    go_ret
    exact ⟨rfl, B2.out.trans (HC5.out.mono B2.out.size)⟩
  obtain ⟨e, rfl, hQ⟩ := hr
  go_wp2_with fail
  refine (refRight_is e B m f ms true _ (HM.out.below HC4.out) (by simp; exact ⟨e, rfl, hQ⟩)).mono ?_
  rintro e' w5 ⟨rfl, hb⟩
  have HC5 := Lib.hid (HC4.out.trans (hb.mono HC4.out.size))
  have HQ := Lib.hid hQ
  clear hb s0 s1 t0 t1 hQ
  obtain ⟨s0, s1⟩ := (HG1.out.below HC5.out HL1.out).cs
  obtain ⟨t0, t1⟩ := (HG2.out.below HC5.out HL2.out).cs
  have hd6 := HR.out.deep
  have he6 := HQ.out.deep
  have n1 := Sp.nearest_is d
  have n2 := Sp.nearest_is e
  have hIA := is_spot d 0 (by omega) (Nat.two_pow_pos _)
  have hIB := is_spot e 0 (by omega) (Nat.two_pow_pos _)
  have CC := Lib.hid (clash_is d A n c ns e B m f ms HR.out HQ.out d 0 e 0 (Nat.le_refl _) (Nat.two_pow_pos _) (Nat.le_refl _) (Nat.two_pow_pos _))
  unfold HalfC at CC
  obtain ⟨x, hx⟩ : ∃ x, Fl.fl d = x := ⟨_, rfl⟩
  obtain ⟨y, hy⟩ : ∃ y, Fl.fl e = y := ⟨_, rfl⟩
  rw [Fl.fl0] at hIA hIB CC
  rw [hx] at n1 hIA CC
  rw [hy] at n2 hIB CC
  have CS1 := Lib.hid (fun W h1 h2 => sum_any d A n c ns x 0 (some (d, 0)) W h1 h2 hIA)
  have CS2 := Lib.hid (fun W h1 h2 => sum_any e B m f ms y 0 (some (e, 0)) W h1 h2 hIB)
  rw [sumT_yes HR.out (Nat.le_refl _) (Nat.two_pow_pos _)] at CS1
  rw [sumT_yes HQ.out (Nat.le_refl _) (Nat.two_pow_pos _)] at CS2
  obtain ⟨cl, hcl⟩ : ∃ b, clashF ns ms d 0 e 0 = b := ⟨_, rfl⟩
  rw [hcl] at CC
  have HCL := Lib.hid hcl
  obtain ⟨sa, hsa⟩ : ∃ s, sumF ns d 0 = s := ⟨_, rfl⟩
  obtain ⟨sb, hsb⟩ : ∃ s, sumF ms e 0 = s := ⟨_, rfl⟩
  have hx1 : ∀ j, gt sa j < 256 := by rw [← hsa]; exact sumF_lt _ _ _
  have hx2 : ∀ j, gt sb j < 256 := by rw [← hsb]; exact sumF_lt _ _ _
  rw [hsa] at CS1
  rw [hsb] at CS2
  have HSA := Lib.hid hsa; have HSB := Lib.hid hsb
  have z1 := Wr.txt_beq hx1 hx2
  clear hcl hsa hsb hx1 hx2 hx hy hIA hIB hd6 he6
  have HCd : Hid (Below W2.heap.size W2 w5.drew) := Lib.hid HC5.out.drew
  go_wp2_with fail
  clear s0 s1 t0 t1 n1 n2 hD hE
  by_cases hs : sa = sb
  case neg =>
    rw [decide_eq_false hs] at z1
    have HSAME := Lib.hid (show ¬ ((d : Int) = (e : Int) ∧ ns = ms) by
      rintro ⟨h1, h2⟩
      apply hs
      rw [← HSA.out, ← HSB.out, h2, show d = e by omega])
    clear hs
    try simp only [Act.put]
    refine Wr.region_calm ?_
    refine wp_region_any (by kernel_rfl) ?_
    change wpAny _ _ _ _ _ _ _ (World.drew w5)
    generalize World.drew w5 = wd1 at *
    have HSwd1 : Hid (Below wd1.heap.size wd1 wd1) := Lib.hid (Below.refl _ _)
    refine wpAny_of_held (S := fun W => Below wd1.heap.size wd1 W) _ _ _ _ ?_
    refine wpAnyH_take (i := 0) (v := ?ve1) rfl (by kernel_rfl) (by kernel_rfl) (by kernel_rfl) (fun _ _ _ h => h) (Or.inl ⟨by rfl, ?ye1⟩) HSwd1.out ?re1
    case ye1 => (intro w' hSw; have hq_wd1 : Below wd1.heap.size wd1 w' := hSw; have hq := hq_wd1; obtain ⟨s0, s1⟩ := (HG1.out.below (HCd.out.trans (hq.mono HCd.out.size)) HL1.out).cs; obtain ⟨t0, t1⟩ := (HG2.out.below (HCd.out.trans (hq.mono HCd.out.size)) HL2.out).cs; clear hSw; try clear hq hq_wd1; go_simp; try with_reducible rfl)
    simp only [List.getElem_toArray, List.getElem_cons_succ, List.getElem_cons_zero, Act.put, List.setIfInBounds_toArray, List.set_cons_zero, List.set_cons_succ]
    refine wpAnyH_take (i := 1) (v := ?ve2) rfl (by kernel_rfl) (by kernel_rfl) (by kernel_rfl) (fun _ _ _ h => h) (Or.inl ⟨by rfl, ?ye2⟩) HSwd1.out ?re2
    case ye2 => (intro w' hSw; clear hSw; go_simp; try with_reducible rfl)
    simp only [List.getElem_toArray, List.getElem_cons_succ, List.getElem_cons_zero, Act.put, List.setIfInBounds_toArray, List.set_cons_zero, List.set_cons_succ]
    refine wpAnyH_take (i := 4) (v := ?ve3) rfl (by kernel_rfl) (by kernel_rfl) (by kernel_rfl) (fun _ _ _ h => h) (Or.inl ⟨by rfl, ?ye3⟩) HSwd1.out ?re3
    case ye3 => (intro w' hSw; have hq_wd1 : Below wd1.heap.size wd1 w' := hSw; have hq := hq_wd1; obtain ⟨s0, s1⟩ := (HG1.out.below (HCd.out.trans (hq.mono HCd.out.size)) HL1.out).cs; obtain ⟨t0, t1⟩ := (HG2.out.below (HCd.out.trans (hq.mono HCd.out.size)) HL2.out).cs; clear hSw; try clear hq hq_wd1; go_simp; try with_reducible rfl)
    simp only [List.getElem_toArray, List.getElem_cons_succ, List.getElem_cons_zero, Act.put, List.setIfInBounds_toArray, List.set_cons_zero, List.set_cons_succ]
    refine wpAnyH_take (i := 5) (v := ?ve4) rfl (by kernel_rfl) (by kernel_rfl) (by kernel_rfl) (fun _ _ _ h => h) (Or.inl ⟨by rfl, ?ye4⟩) HSwd1.out ?re4
    case ye4 => (intro w' hSw; clear hSw; go_simp; try with_reducible rfl)
    simp only [List.getElem_toArray, List.getElem_cons_succ, List.getElem_cons_zero, Act.put, List.setIfInBounds_toArray, List.set_cons_zero, List.set_cons_succ]
    refine wpAnyH_ready (rs := [2]) (by kernel_rfl) (by simp) ?_
    refine AllReadyH.cons rfl (fun K' hK => ?_) AllReadyH.nil
    simp only [List.getElem_toArray, List.getElem_cons_succ, List.getElem_cons_zero]
    go_simp
    refine (CS1.out _ (HN.out.below HCd.out) (HT.out.below HCd.out)).mono ?_
    rintro e' u1 ⟨X1, m1, x1, rfl, hX, hb⟩
    have HU_wd1_u1 := Lib.hid hb
    have HX1 := Lib.hid hX.any; clear hb hX
    refine hK.out _ _ HU_wd1_u1.out (fun _ => ?_)
    clear hK
    try simp only [List.getElem_toArray, List.getElem_cons_succ, List.getElem_cons_zero, Act.put, List.setIfInBounds_toArray, List.set_cons_zero, List.set_cons_succ]
    have HSu1 : Hid (Below u1.heap.size u1 u1) := Lib.hid (Below.refl _ _)
    refine Sha.wpAnyH_more (S' := fun W => Below u1.heap.size u1 W) (fun W h => HU_wd1_u1.out.trans (h.mono HU_wd1_u1.out.size)) _ _ _ _ ?_
    refine wpAnyH_take (i := 3) (v := ?ve5) rfl (by kernel_rfl) (by kernel_rfl) (by kernel_rfl) (fun _ _ _ h => h) (Or.inl ⟨by rfl, ?ye5⟩) HSu1.out ?re5
    case ye5 => (intro w' hSw; have hq_u1 : Below u1.heap.size u1 w' := hSw; have hq_wd1 : Below wd1.heap.size wd1 w' := HU_wd1_u1.out.trans (hSw.mono HU_wd1_u1.out.size); have hq := hq_wd1; have cc1 := (HX1.out.below hq_u1).conv; clear hSw; try clear hq hq_wd1 hq_u1; go_simp; try with_reducible rfl)
    simp only [List.getElem_toArray, List.getElem_cons_succ, List.getElem_cons_zero, Act.put, List.setIfInBounds_toArray, List.set_cons_zero, List.set_cons_succ]
    refine wpAnyH_ready (rs := [6]) (by kernel_rfl) (by simp) ?_
    refine AllReadyH.cons rfl (fun K' hK => ?_) AllReadyH.nil
    simp only [List.getElem_toArray, List.getElem_cons_succ, List.getElem_cons_zero]
    go_simp
    refine (CS2.out _ (HM.out.below (HCd.out.trans (HU_wd1_u1.out.mono HCd.out.size))) (HT.out.below (HCd.out.trans (HU_wd1_u1.out.mono HCd.out.size)))).mono ?_
    rintro e' u2 ⟨X2, m2, x2, rfl, hX, hb⟩
    have HU_u1_u2 := Lib.hid hb
    have HX2 := Lib.hid hX.any; clear hb hX
    have HU_wd1_u2 := Lib.hid (HU_wd1_u1.out.trans (HU_u1_u2.out.mono HU_wd1_u1.out.size))
    refine hK.out _ _ HU_u1_u2.out (fun _ => ?_)
    clear hK
    try simp only [List.getElem_toArray, List.getElem_cons_succ, List.getElem_cons_zero, Act.put, List.setIfInBounds_toArray, List.set_cons_zero, List.set_cons_succ]
    have HSu2 : Hid (Below u2.heap.size u2 u2) := Lib.hid (Below.refl _ _)
    refine Sha.wpAnyH_more (S' := fun W => Below u2.heap.size u2 W) (fun W h => HU_u1_u2.out.trans (h.mono HU_u1_u2.out.size)) _ _ _ _ ?_
    refine wpAnyH_take (i := 7) (v := ?ve6) rfl (by kernel_rfl) (by kernel_rfl) (by kernel_rfl) (fun _ _ _ h => h) (Or.inl ⟨by rfl, ?ye6⟩) HSu2.out ?re6
    case ye6 => (intro w' hSw; have hq_u2 : Below u2.heap.size u2 w' := hSw; have hq_u1 : Below u1.heap.size u1 w' := HU_u1_u2.out.trans (hSw.mono HU_u1_u2.out.size); have hq_wd1 : Below wd1.heap.size wd1 w' := HU_wd1_u2.out.trans (hSw.mono HU_wd1_u2.out.size); have hq := hq_wd1; have cc2 := (HX2.out.below hq_u2).conv; clear hSw; try clear hq hq_wd1 hq_u1 hq_u2; go_simp; try with_reducible rfl)
    simp only [List.getElem_toArray, List.getElem_cons_succ, List.getElem_cons_zero, Act.put, List.setIfInBounds_toArray, List.set_cons_zero, List.set_cons_succ]
    refine wpAnyH_take (i := 8) (v := ?ve7) rfl (by kernel_rfl) (by kernel_rfl) (by kernel_rfl) (fun _ _ _ h => h) (Or.inl ⟨by rfl, ?ye7⟩) HSu2.out ?re7
    case ye7 => (intro w' hSw; clear hSw; go_simp; try with_reducible rfl)
    simp only [List.getElem_toArray, List.getElem_cons_succ, List.getElem_cons_zero, Act.put, List.setIfInBounds_toArray, List.set_cons_zero, List.set_cons_succ]
    refine wpAnyH_done (by kernel_rfl) ?_ _
    change Exit.then _ _ Exit.normal _ _
    have HC6 : Hid (Below W2.heap.size W2 u2) := Lib.hid (HCd.out.trans ((HU_wd1_u1.out.trans (HU_u1_u2.out.mono HU_wd1_u1.out.size)).mono HCd.out.size))
    clear HU_wd1_u1 HU_u1_u2 HU_wd1_u2 HX1 HX2
    obtain ⟨s0, s1⟩ := (HG1.out.below HC6.out HL1.out).cs
    obtain ⟨t0, t1⟩ := (HG2.out.below HC6.out HL2.out).cs
    go_wp2_with fail
    refine (same_is d A n c ns e B m f ms false _ (HN.out.below HC6.out) (HM.out.below HC6.out) (by simp; exact fun h1 h2 => HSAME.out ⟨by omega, h2⟩)).mono ?_
    rintro e' w7 ⟨rfl, hb⟩
    have HC7 := Lib.hid (HC6.out.trans (hb.mono HC6.out.size))
    clear hb s0 s1 t0 t1
    go_wp2
    go_ret
    exact ⟨rfl, B2.out.trans (HC7.out.mono B2.out.size)⟩
  subst hs
  rw [decide_eq_true rfl] at z1
  try simp only [Act.put]
  refine Wr.region_calm ?_
  refine wp_region_any (by kernel_rfl) ?_
  change wpAny _ _ _ _ _ _ _ (World.drew w5)
  generalize World.drew w5 = wd1 at *
  have HSwd1 : Hid (Below wd1.heap.size wd1 wd1) := Lib.hid (Below.refl _ _)
  refine wpAny_of_held (S := fun W => Below wd1.heap.size wd1 W) _ _ _ _ ?_
  refine wpAnyH_take (i := 0) (v := ?ve8) rfl (by kernel_rfl) (by kernel_rfl) (by kernel_rfl) (fun _ _ _ h => h) (Or.inl ⟨by rfl, ?ye8⟩) HSwd1.out ?re8
  case ye8 => (intro w' hSw; have hq_wd1 : Below wd1.heap.size wd1 w' := hSw; have hq := hq_wd1; obtain ⟨s0, s1⟩ := (HG1.out.below (HCd.out.trans (hq.mono HCd.out.size)) HL1.out).cs; obtain ⟨t0, t1⟩ := (HG2.out.below (HCd.out.trans (hq.mono HCd.out.size)) HL2.out).cs; clear hSw; try clear hq hq_wd1; go_simp; try with_reducible rfl)
  simp only [List.getElem_toArray, List.getElem_cons_succ, List.getElem_cons_zero, Act.put, List.setIfInBounds_toArray, List.set_cons_zero, List.set_cons_succ]
  refine wpAnyH_take (i := 1) (v := ?ve9) rfl (by kernel_rfl) (by kernel_rfl) (by kernel_rfl) (fun _ _ _ h => h) (Or.inl ⟨by rfl, ?ye9⟩) HSwd1.out ?re9
  case ye9 => (intro w' hSw; clear hSw; go_simp; try with_reducible rfl)
  simp only [List.getElem_toArray, List.getElem_cons_succ, List.getElem_cons_zero, Act.put, List.setIfInBounds_toArray, List.set_cons_zero, List.set_cons_succ]
  refine wpAnyH_take (i := 4) (v := ?ve10) rfl (by kernel_rfl) (by kernel_rfl) (by kernel_rfl) (fun _ _ _ h => h) (Or.inl ⟨by rfl, ?ye10⟩) HSwd1.out ?re10
  case ye10 => (intro w' hSw; have hq_wd1 : Below wd1.heap.size wd1 w' := hSw; have hq := hq_wd1; obtain ⟨s0, s1⟩ := (HG1.out.below (HCd.out.trans (hq.mono HCd.out.size)) HL1.out).cs; obtain ⟨t0, t1⟩ := (HG2.out.below (HCd.out.trans (hq.mono HCd.out.size)) HL2.out).cs; clear hSw; try clear hq hq_wd1; go_simp; try with_reducible rfl)
  simp only [List.getElem_toArray, List.getElem_cons_succ, List.getElem_cons_zero, Act.put, List.setIfInBounds_toArray, List.set_cons_zero, List.set_cons_succ]
  refine wpAnyH_take (i := 5) (v := ?ve11) rfl (by kernel_rfl) (by kernel_rfl) (by kernel_rfl) (fun _ _ _ h => h) (Or.inl ⟨by rfl, ?ye11⟩) HSwd1.out ?re11
  case ye11 => (intro w' hSw; clear hSw; go_simp; try with_reducible rfl)
  simp only [List.getElem_toArray, List.getElem_cons_succ, List.getElem_cons_zero, Act.put, List.setIfInBounds_toArray, List.set_cons_zero, List.set_cons_succ]
  refine wpAnyH_ready (rs := [2]) (by kernel_rfl) (by simp) ?_
  refine AllReadyH.cons rfl (fun K' hK => ?_) AllReadyH.nil
  simp only [List.getElem_toArray, List.getElem_cons_succ, List.getElem_cons_zero]
  go_simp
  refine (CS1.out _ (HN.out.below HCd.out) (HT.out.below HCd.out)).mono ?_
  rintro e' u1 ⟨X1, m1, x1, rfl, hX, hb⟩
  have HU_wd1_u1 := Lib.hid hb
  have HX1 := Lib.hid hX.any; clear hb hX
  refine hK.out _ _ HU_wd1_u1.out (fun _ => ?_)
  clear hK
  try simp only [List.getElem_toArray, List.getElem_cons_succ, List.getElem_cons_zero, Act.put, List.setIfInBounds_toArray, List.set_cons_zero, List.set_cons_succ]
  have HSu1 : Hid (Below u1.heap.size u1 u1) := Lib.hid (Below.refl _ _)
  refine Sha.wpAnyH_more (S' := fun W => Below u1.heap.size u1 W) (fun W h => HU_wd1_u1.out.trans (h.mono HU_wd1_u1.out.size)) _ _ _ _ ?_
  refine wpAnyH_take (i := 3) (v := ?ve12) rfl (by kernel_rfl) (by kernel_rfl) (by kernel_rfl) (fun _ _ _ h => h) (Or.inl ⟨by rfl, ?ye12⟩) HSu1.out ?re12
  case ye12 => (intro w' hSw; have hq_u1 : Below u1.heap.size u1 w' := hSw; have hq_wd1 : Below wd1.heap.size wd1 w' := HU_wd1_u1.out.trans (hSw.mono HU_wd1_u1.out.size); have hq := hq_wd1; have cc1 := (HX1.out.below hq_u1).conv; clear hSw; try clear hq hq_wd1 hq_u1; go_simp; try with_reducible rfl)
  simp only [List.getElem_toArray, List.getElem_cons_succ, List.getElem_cons_zero, Act.put, List.setIfInBounds_toArray, List.set_cons_zero, List.set_cons_succ]
  refine wpAnyH_ready (rs := [6]) (by kernel_rfl) (by simp) ?_
  refine AllReadyH.cons rfl (fun K' hK => ?_) AllReadyH.nil
  simp only [List.getElem_toArray, List.getElem_cons_succ, List.getElem_cons_zero]
  go_simp
  refine (CS2.out _ (HM.out.below (HCd.out.trans (HU_wd1_u1.out.mono HCd.out.size))) (HT.out.below (HCd.out.trans (HU_wd1_u1.out.mono HCd.out.size)))).mono ?_
  rintro e' u2 ⟨X2, m2, x2, rfl, hX, hb⟩
  have HU_u1_u2 := Lib.hid hb
  have HX2 := Lib.hid hX.any; clear hb hX
  have HU_wd1_u2 := Lib.hid (HU_wd1_u1.out.trans (HU_u1_u2.out.mono HU_wd1_u1.out.size))
  refine hK.out _ _ HU_u1_u2.out (fun _ => ?_)
  clear hK
  try simp only [List.getElem_toArray, List.getElem_cons_succ, List.getElem_cons_zero, Act.put, List.setIfInBounds_toArray, List.set_cons_zero, List.set_cons_succ]
  have HSu2 : Hid (Below u2.heap.size u2 u2) := Lib.hid (Below.refl _ _)
  refine Sha.wpAnyH_more (S' := fun W => Below u2.heap.size u2 W) (fun W h => HU_u1_u2.out.trans (h.mono HU_u1_u2.out.size)) _ _ _ _ ?_
  refine wpAnyH_take (i := 7) (v := ?ve13) rfl (by kernel_rfl) (by kernel_rfl) (by kernel_rfl) (fun _ _ _ h => h) (Or.inl ⟨by rfl, ?ye13⟩) HSu2.out ?re13
  case ye13 => (intro w' hSw; have hq_u2 : Below u2.heap.size u2 w' := hSw; have hq_u1 : Below u1.heap.size u1 w' := HU_u1_u2.out.trans (hSw.mono HU_u1_u2.out.size); have hq_wd1 : Below wd1.heap.size wd1 w' := HU_wd1_u2.out.trans (hSw.mono HU_wd1_u2.out.size); have hq := hq_wd1; have cc2 := (HX2.out.below hq_u2).conv; clear hSw; try clear hq hq_wd1 hq_u1 hq_u2; go_simp; try with_reducible rfl)
  simp only [List.getElem_toArray, List.getElem_cons_succ, List.getElem_cons_zero, Act.put, List.setIfInBounds_toArray, List.set_cons_zero, List.set_cons_succ]
  refine wpAnyH_take (i := 8) (v := ?ve14) rfl (by kernel_rfl) (by kernel_rfl) (by kernel_rfl) (fun _ _ _ h => h) (Or.inl ⟨by rfl, ?ye14⟩) HSu2.out ?re14
  case ye14 => (intro w' hSw; clear hSw; go_simp; try with_reducible rfl)
  simp only [List.getElem_toArray, List.getElem_cons_succ, List.getElem_cons_zero, Act.put, List.setIfInBounds_toArray, List.set_cons_zero, List.set_cons_succ]
  refine wpAnyH_done (by kernel_rfl) ?_ _
  change Exit.then _ _ Exit.normal _ _
  have HC6 : Hid (Below W2.heap.size W2 u2) := Lib.hid (HCd.out.trans ((HU_wd1_u1.out.trans (HU_u1_u2.out.mono HU_wd1_u1.out.size)).mono HCd.out.size))
  clear HU_wd1_u1 HU_u1_u2 HU_wd1_u2 HX1 HX2 z1
  obtain ⟨s0, s1⟩ := (HG1.out.below HC6.out HL1.out).cs
  obtain ⟨t0, t1⟩ := (HG2.out.below HC6.out HL2.out).cs
  by_cases hsm : (d : Int) = (e : Int) ∧ ns = ms
  case pos =>
    have HSAME := Lib.hid hsm
    clear hsm
    go_wp2_with fail
    refine (same_is d A n c ns e B m f ms true _ (HN.out.below HC6.out) (HM.out.below HC6.out) (by simp; exact ⟨by have := HSAME.out.1; omega, HSAME.out.2⟩)).mono ?_
    rintro e' w7 ⟨rfl, hb⟩
    have HC7 := Lib.hid (HC6.out.trans (hb.mono HC6.out.size))
    clear hb s0 s1 t0 t1
    go_wp2
    go_ret
    exact ⟨rfl, B2.out.trans (HC7.out.mono B2.out.size)⟩
  have HSAME := Lib.hid hsm
  obtain rfl : cl = true := by
    rw [← HCL.out]
    cases h : clashF ns ms d 0 e 0 with
    | true => rfl
    | false =>
      obtain ⟨h1, h2⟩ := bound_trees HR.out HQ.out (by rw [HSA.out, HSB.out]) h
      exact absurd ⟨by omega, h2⟩ hsm
  clear hsm
  go_wp2_with fail
  refine (same_is d A n c ns e B m f ms false _ (HN.out.below HC6.out) (HM.out.below HC6.out) (by simp; exact fun h1 h2 => HSAME.out ⟨by omega, h2⟩)).mono ?_
  rintro e' w7 ⟨rfl, hb⟩
  have HC7 := Lib.hid (HC6.out.trans (hb.mono HC6.out.size))
  clear hb s0 s1 t0 t1
  obtain ⟨s0, s1⟩ := (HG1.out.below HC7.out HL1.out).cs
  obtain ⟨t0, t1⟩ := (HG2.out.below HC7.out HL2.out).cs
  go_wp2_with fail
  refine (CC.out _ (HN.out.below HC7.out) (HM.out.below HC7.out) (HT.out.below HC7.out)).mono ?_
  rintro e' w8 ⟨rfl, hb⟩
  have HC8 := Lib.hid (HC7.out.trans (hb.mono HC7.out.size))
  clear hb s0 s1 t0 t1
  go_wp2
  go_ret
  exact ⟨rfl, B2.out.trans (HC8.out.mono B2.out.size)⟩
end Go.Proofs.YtophnoaneoeiaaaGreatDoor.Rt
