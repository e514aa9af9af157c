/- Walks: the laws' clash. Written by tools/mk_rtclash.py. -/
import Derived.Test.YtophnoaneoeiaaaGreatDoorRtPre
import Derived.Test.YtophnoaneoeiaaaGreatDoorRtSameT
namespace Go.Proofs.YtophnoaneoeiaaaGreatDoor.Rt
set_option linter.all false
open Go.RowKit Wr

theorem rests_lt (ns : List Nd) (l p : Nat) : ∀ j, gt (rests ns l p) j < 256 := by
  cases l with
  | zero => intro j; simp [rests, gt]
  | succ l => exact gt_append_lt (sumF_lt _ _ _) (sumF_lt _ _ _)
theorem pre_any (d : Nat) (A : Option Addr) (n c : Nat) (ns : List Nd) (re im l p : Nat) (w : World) (hN : Nodes Any Any w A n c ns) (hT : Tabs w) (hR : Right ns d) (hl : l ≤ d) (hp : p < 2 ^ (d - l)) (hS : Sp.Is re im (some (l, p))) :
    Calls Tryz.prog 65 #[.agg #[.int .i64 d, .slice A n c], .complex .f64 re im] w (Wr.Told (pre ns l p) w) := by
  have hi : idx l p < n := by have := idx_lt hl hp; rw [← hN.len, hR.len]; exact this
  obtain ⟨ad, rfl⟩ := hN.some (by omega)
  obtain ⟨q, _, his⟩ := hN.at (idx l p) hi
  have hx : ∀ j, gt (pre ns l p) j < 256 := gt_append_lt (nodeB_lt his) (rests_lt ns l p)
  refine (pre_own d (some ad) n c ns re im l p w hN hT hR hl hp hS).mono ?_
  rintro e w' ⟨C, m, cc, rfl, ho, hb⟩
  obtain ⟨A', c', e', hX⟩ := Txt.of_own ho hx
  exact ⟨A', m, c', by rw [e'], hX.mono (fun b h => ⟨Nat.le_of_succ_le h.1, h.2⟩), hb⟩
/-- both trees' halves -/
def HalfC (d : Nat) (A : Option Addr) (n c : Nat) (ns : List Nd) (e : Nat) (B : Option Addr) (m f : Nat) (ms : List Nd) (l p k q : Nat) : Prop :=
  ∀ w, Nodes Any Any w A n c ns → Nodes Any Any w B m f ms → Tabs w → Calls Tryz.prog 32 #[.agg #[.int .i64 d, .slice A n c], .complex .f64 (Fl.fl l) (Fl.fl p), .agg #[.int .i64 e, .slice B m f], .complex .f64 (Fl.fl k) (Fl.fl q)] w fun x w' => x = .returned (.bool (clashF ns ms l p k q)) ∧ Below w.heap.size w w'

set_option maxHeartbeats 8000000 in
set_option maxRecDepth 100000 in
theorem clash_step (d : Nat) (A : Option Addr) (n c : Nat) (ns : List Nd) (e : Nat) (B : Option Addr) (m f : Nat) (ms : List Nd) (l p k q : Nat) (w : World) (hN : Nodes Any Any w A n c ns) (hM : Nodes Any Any w B m f ms) (hT : Tabs w)
    (hR : Right ns d) (hQ : Right ms e) (hl : l ≤ d) (hp : p < 2 ^ (d - l)) (hk : k ≤ e) (hq : q < 2 ^ (e - k))
    (ih1 : ∀ l' k', l = l' + 1 → k = k' + 1 → HalfC d A n c ns e B m f ms l' (2 * p) k' (2 * q)) (ih2 : ∀ l' k', l = l' + 1 → k = k' + 1 → HalfC d A n c ns e B m f ms l' (2 * p + 1) k' (2 * q + 1)) :
    Calls Tryz.prog 32 #[.agg #[.int .i64 d, .slice A n c], .complex .f64 (Fl.fl l) (Fl.fl p), .agg #[.int .i64 e, .slice B m f], .complex .f64 (Fl.fl k) (Fl.fl q)] w fun x w' => x = .returned (.bool (clashF ns ms l p k q)) ∧ Below w.heap.size w w' := by
  obtain ⟨W2, hW2, g1, g2, hB2⟩ := two_trees w d A n c e B m f
  have B2 := Lib.hid hB2
  have HN := Lib.hid (hN.kept hB2.size (fun x _ hx => hB2.block x hx) fun x _ hx => hB2.block x hx); have HM := Lib.hid (hM.kept hB2.size (fun x _ hx => hB2.block x hx) fun x _ hx => hB2.block x hx)
  have HT := Lib.hid (hT.below hB2)
  have HG1 := Lib.hid g1; have HG2 := Lib.hid g2
  have HL1 := Lib.hid g1.lt; have HL2 := Lib.hid g2.lt
  have hd16 := hR.deep
  have he16 := hQ.deep
  have hIA := is_spot l p (by omega) (Nat.lt_of_lt_of_le hp (Nat.pow_le_pow_right (by decide) (show d - l ≤ 16 - l by omega)))
  have hIB := is_spot k q (by omega) (Nat.lt_of_lt_of_le hq (Nat.pow_le_pow_right (by decide) (show e - k ≤ 16 - k by omega)))
  have HIA := Lib.hid hIA; have HIB := Lib.hid hIB
  have CS1 := Lib.hid (fun W h1 h2 => sum_any d A n c ns (Fl.fl l) (Fl.fl p) (some (l, p)) W h1 h2 hIA)
  have CS2 := Lib.hid (fun W h1 h2 => sum_any e B m f ms (Fl.fl k) (Fl.fl q) (some (k, q)) W h1 h2 hIB)
  rw [sumT_yes hR hl hp] at CS1
  rw [sumT_yes hQ hk hq] at CS2
  have CP1 := Lib.hid (fun W h1 h2 => pre_any d A n c ns (Fl.fl l) (Fl.fl p) l p W h1 h2 hR hl hp hIA)
  have CP2 := Lib.hid (fun W h1 h2 => pre_any e B m f ms (Fl.fl k) (Fl.fl q) k q W h1 h2 hQ hk hq hIB)
  have o1 := order_zero hIA
  have o2 := order_zero hIB
  have HO1 := Lib.hid o1; have HO2 := Lib.hid o2
  have HI1 := Lib.hid ih1; have HI2 := Lib.hid ih2
  obtain ⟨r, hr⟩ : ∃ r, clashF ns ms l p k q = r := ⟨_, rfl⟩
  have HR := Lib.hid hr
  rw [hr]
  obtain ⟨sa, hsa⟩ : ∃ s, sumF ns l p = s := ⟨_, rfl⟩
  obtain ⟨sb, hsb⟩ : ∃ s, sumF ms k q = s := ⟨_, rfl⟩
  obtain ⟨pa, hpa⟩ : ∃ s, pre ns l p = s := ⟨_, rfl⟩
  obtain ⟨pb, hpb⟩ : ∃ s, pre ms k q = s := ⟨_, rfl⟩
  have hx1 : ∀ j, gt sa j < 256 := by rw [← hsa]; exact sumF_lt _ _ _
  have hx2 : ∀ j, gt sb j < 256 := by rw [← hsb]; exact sumF_lt _ _ _
  rw [hsa] at CS1
  rw [hsb] at CS2
  rw [hpa] at CP1
  rw [hpb] at CP2
  have HSA := Lib.hid hsa; have HSB := Lib.hid hsb; have HPA := Lib.hid hpa; have HPB := Lib.hid hpb
  have z1 := Wr.txt_beq hx1 hx2
  obtain ⟨rl, hrl⟩ : ∃ x, Fl.fl l = x := ⟨_, rfl⟩
  obtain ⟨rp, hrp⟩ : ∃ x, Fl.fl p = x := ⟨_, rfl⟩
  obtain ⟨rk, hrk⟩ : ∃ x, Fl.fl k = x := ⟨_, rfl⟩
  obtain ⟨rq, hrq⟩ : ∃ x, Fl.fl q = x := ⟨_, rfl⟩
  rw [hrl, hrp] at CS1 CP1 HIA
  rw [hrk, hrq] at CS2 CP2 HIB
  rw [hrl] at HO1
  rw [hrk] at HO2
  rw [hrl, hrp, hrk, hrq]
  have HLK := Lib.hid (And.intro hl (And.intro hp (And.intro hk hq)))
  clear hN hM hT hR hQ ih1 ih2 hr hsa hsb hpa hpb hx1 hx2 hrl hrp hrk hrq g1 g2 hB2 hIA hIB o1 o2 hl hp hk hq
  have HWd : Hid (Below W2.heap.size W2 W2.drew) := Lib.hid (Below.refl _ _).drew
  by_cases hs : sa = sb
  case neg =>
    rw [decide_eq_false hs] at z1
    have y1 : ((txt sa).toList != (txt sb).toList) = true := by rw [bne, z1]; rfl
    obtain rfl : r = false := by
      have h1 := HR.out
      have h2 : ¬ sumF ns l p = sumF ms k q := by rw [HSA.out, HSB.out]; exact hs
      rw [← h1]
      cases l with
      | zero => unfold clashF; rw [decide_eq_false h2]; rfl
      | succ l => cases k with
        | zero => unfold clashF; rw [decide_eq_false h2]; rfl
        | succ k => unfold clashF; rw [decide_eq_false h2]; rfl
    clear hs
    go_enter Tryz.func32, Tryz.ntmps32
    go_wp2_with fail
    try simp only [Act.put]
    refine Wr.region_calm ?_
    refine wp_region_any (by kernel_rfl) ?_
    change wpAny _ _ _ _ _ _ _ (World.drew W2)
    generalize World.drew W2 = wd1 at *
    have HSwd1 : Hid (Below wd1.heap.size wd1 wd1) := Lib.hid (Below.refl _ _)
    refine wpAny_of_held (S := fun W => Below wd1.heap.size wd1 W) _ _ _ _ ?_
    refine wpAnyH_take (i := 0) (v := ?ve1) rfl (by kernel_rfl) (by kernel_rfl) (by kernel_rfl) (fun _ _ _ h => h) (Or.inl ⟨by rfl, ?ye1⟩) HSwd1.out ?re1
    case ye1 => (intro w' hSw; have hq_wd1 : Below wd1.heap.size wd1 w' := hSw; have hq := hq_wd1; obtain ⟨s0, s1⟩ := (HG1.out.below (HWd.out.trans (hq.mono HWd.out.size)) HL1.out).cs; obtain ⟨t0, t1⟩ := (HG2.out.below (HWd.out.trans (hq.mono HWd.out.size)) HL2.out).cs; clear hSw; try clear hq hq_wd1; go_simp; try with_reducible rfl)
    simp only [List.getElem_toArray, List.getElem_cons_succ, List.getElem_cons_zero, Act.put, List.setIfInBounds_toArray, List.set_cons_zero, List.set_cons_succ]
    refine wpAnyH_take (i := 1) (v := ?ve2) rfl (by kernel_rfl) (by kernel_rfl) (by kernel_rfl) (fun _ _ _ h => h) (Or.inl ⟨by rfl, ?ye2⟩) HSwd1.out ?re2
    case ye2 => (intro w' hSw; clear hSw; go_simp; try with_reducible rfl)
    simp only [List.getElem_toArray, List.getElem_cons_succ, List.getElem_cons_zero, Act.put, List.setIfInBounds_toArray, List.set_cons_zero, List.set_cons_succ]
    refine wpAnyH_take (i := 4) (v := ?ve3) rfl (by kernel_rfl) (by kernel_rfl) (by kernel_rfl) (fun _ _ _ h => h) (Or.inl ⟨by rfl, ?ye3⟩) HSwd1.out ?re3
    case ye3 => (intro w' hSw; have hq_wd1 : Below wd1.heap.size wd1 w' := hSw; have hq := hq_wd1; obtain ⟨s0, s1⟩ := (HG1.out.below (HWd.out.trans (hq.mono HWd.out.size)) HL1.out).cs; obtain ⟨t0, t1⟩ := (HG2.out.below (HWd.out.trans (hq.mono HWd.out.size)) HL2.out).cs; clear hSw; try clear hq hq_wd1; go_simp; try with_reducible rfl)
    simp only [List.getElem_toArray, List.getElem_cons_succ, List.getElem_cons_zero, Act.put, List.setIfInBounds_toArray, List.set_cons_zero, List.set_cons_succ]
    refine wpAnyH_take (i := 5) (v := ?ve4) rfl (by kernel_rfl) (by kernel_rfl) (by kernel_rfl) (fun _ _ _ h => h) (Or.inl ⟨by rfl, ?ye4⟩) HSwd1.out ?re4
    case ye4 => (intro w' hSw; clear hSw; go_simp; try with_reducible rfl)
    simp only [List.getElem_toArray, List.getElem_cons_succ, List.getElem_cons_zero, Act.put, List.setIfInBounds_toArray, List.set_cons_zero, List.set_cons_succ]
    refine wpAnyH_ready (rs := [2]) (by kernel_rfl) (by simp) ?_
    refine AllReadyH.cons rfl (fun K' hK => ?_) AllReadyH.nil
    simp only [List.getElem_toArray, List.getElem_cons_succ, List.getElem_cons_zero]
    go_simp
    refine (CS1.out _ (HN.out.below HWd.out) (HT.out.below HWd.out)).mono ?_
    rintro e' u1 ⟨X1, m1, x1, rfl, hX, hb⟩
    have HU_wd1_u1 := Lib.hid hb
    have HX1 := Lib.hid hX.any; clear hb hX
    refine hK.out _ _ HU_wd1_u1.out (fun _ => ?_)
    clear hK
    try simp only [List.getElem_toArray, List.getElem_cons_succ, List.getElem_cons_zero, Act.put, List.setIfInBounds_toArray, List.set_cons_zero, List.set_cons_succ]
    have HSu1 : Hid (Below u1.heap.size u1 u1) := Lib.hid (Below.refl _ _)
    refine Sha.wpAnyH_more (S' := fun W => Below u1.heap.size u1 W) (fun W h => HU_wd1_u1.out.trans (h.mono HU_wd1_u1.out.size)) _ _ _ _ ?_
    refine wpAnyH_take (i := 3) (v := ?ve5) rfl (by kernel_rfl) (by kernel_rfl) (by kernel_rfl) (fun _ _ _ h => h) (Or.inl ⟨by rfl, ?ye5⟩) HSu1.out ?re5
    case ye5 => (intro w' hSw; have hq_u1 : Below u1.heap.size u1 w' := hSw; have hq_wd1 : Below wd1.heap.size wd1 w' := HU_wd1_u1.out.trans (hSw.mono HU_wd1_u1.out.size); have hq := hq_wd1; have cc1 := (HX1.out.below hq_u1).conv; clear hSw; try clear hq hq_wd1 hq_u1; go_simp; try with_reducible rfl)
    simp only [List.getElem_toArray, List.getElem_cons_succ, List.getElem_cons_zero, Act.put, List.setIfInBounds_toArray, List.set_cons_zero, List.set_cons_succ]
    refine wpAnyH_ready (rs := [6]) (by kernel_rfl) (by simp) ?_
    refine AllReadyH.cons rfl (fun K' hK => ?_) AllReadyH.nil
    simp only [List.getElem_toArray, List.getElem_cons_succ, List.getElem_cons_zero]
    go_simp
    refine (CS2.out _ (HM.out.below (HWd.out.trans (HU_wd1_u1.out.mono HWd.out.size))) (HT.out.below (HWd.out.trans (HU_wd1_u1.out.mono HWd.out.size)))).mono ?_
    rintro e' u2 ⟨X2, m2, x2, rfl, hX, hb⟩
    have HU_u1_u2 := Lib.hid hb
    have HX2 := Lib.hid hX.any; clear hb hX
    have HU_wd1_u2 := Lib.hid (HU_wd1_u1.out.trans (HU_u1_u2.out.mono HU_wd1_u1.out.size))
    refine hK.out _ _ HU_u1_u2.out (fun _ => ?_)
    clear hK
    try simp only [List.getElem_toArray, List.getElem_cons_succ, List.getElem_cons_zero, Act.put, List.setIfInBounds_toArray, List.set_cons_zero, List.set_cons_succ]
    have HSu2 : Hid (Below u2.heap.size u2 u2) := Lib.hid (Below.refl _ _)
    refine Sha.wpAnyH_more (S' := fun W => Below u2.heap.size u2 W) (fun W h => HU_u1_u2.out.trans (h.mono HU_u1_u2.out.size)) _ _ _ _ ?_
    refine wpAnyH_take (i := 7) (v := ?ve6) rfl (by kernel_rfl) (by kernel_rfl) (by kernel_rfl) (fun _ _ _ h => h) (Or.inl ⟨by rfl, ?ye6⟩) HSu2.out ?re6
    case ye6 => (intro w' hSw; have hq_u2 : Below u2.heap.size u2 w' := hSw; have hq_u1 : Below u1.heap.size u1 w' := HU_u1_u2.out.trans (hSw.mono HU_u1_u2.out.size); have hq_wd1 : Below wd1.heap.size wd1 w' := HU_wd1_u2.out.trans (hSw.mono HU_wd1_u2.out.size); have hq := hq_wd1; have cc2 := (HX2.out.below hq_u2).conv; clear hSw; try clear hq hq_wd1 hq_u1 hq_u2; go_simp; try with_reducible rfl)
    simp only [List.getElem_toArray, List.getElem_cons_succ, List.getElem_cons_zero, Act.put, List.setIfInBounds_toArray, List.set_cons_zero, List.set_cons_succ]
    refine wpAnyH_take (i := 8) (v := ?ve7) rfl (by kernel_rfl) (by kernel_rfl) (by kernel_rfl) (fun _ _ _ h => h) (Or.inl ⟨by rfl, ?ye7⟩) HSu2.out ?re7
    case ye7 => (intro w' hSw; clear hSw; go_simp; try with_reducible rfl)
    simp only [List.getElem_toArray, List.getElem_cons_succ, List.getElem_cons_zero, Act.put, List.setIfInBounds_toArray, List.set_cons_zero, List.set_cons_succ]
    refine wpAnyH_done (by kernel_rfl) ?_ _
    change Exit.then _ _ Exit.normal _ _
    go_wp2
    go_ret
    exact ⟨rfl, B2.out.trans ((HWd.out.trans ((HU_wd1_u1.out.trans (HU_u1_u2.out.mono HU_wd1_u1.out.size)).mono HWd.out.size)).mono B2.out.size)⟩
  subst hs
  rw [decide_eq_true rfl] at z1
  have y1 : ((txt sa).toList != (txt sa).toList) = false := by rw [bne, z1]; rfl
  have HS : Hid (sumF ns l p = sumF ms k q) := Lib.hid (by rw [HSA.out, HSB.out])
  go_enter Tryz.func32, Tryz.ntmps32
  go_wp2_with fail
  try simp only [Act.put]
  refine Wr.region_calm ?_
  refine wp_region_any (by kernel_rfl) ?_
  change wpAny _ _ _ _ _ _ _ (World.drew W2)
  generalize World.drew W2 = wd1 at *
  have HSwd1 : Hid (Below wd1.heap.size wd1 wd1) := Lib.hid (Below.refl _ _)
  refine wpAny_of_held (S := fun W => Below wd1.heap.size wd1 W) _ _ _ _ ?_
  refine wpAnyH_take (i := 0) (v := ?ve8) rfl (by kernel_rfl) (by kernel_rfl) (by kernel_rfl) (fun _ _ _ h => h) (Or.inl ⟨by rfl, ?ye8⟩) HSwd1.out ?re8
  case ye8 => (intro w' hSw; have hq_wd1 : Below wd1.heap.size wd1 w' := hSw; have hq := hq_wd1; obtain ⟨s0, s1⟩ := (HG1.out.below (HWd.out.trans (hq.mono HWd.out.size)) HL1.out).cs; obtain ⟨t0, t1⟩ := (HG2.out.below (HWd.out.trans (hq.mono HWd.out.size)) HL2.out).cs; clear hSw; try clear hq hq_wd1; go_simp; try with_reducible rfl)
  simp only [List.getElem_toArray, List.getElem_cons_succ, List.getElem_cons_zero, Act.put, List.setIfInBounds_toArray, List.set_cons_zero, List.set_cons_succ]
  refine wpAnyH_take (i := 1) (v := ?ve9) rfl (by kernel_rfl) (by kernel_rfl) (by kernel_rfl) (fun _ _ _ h => h) (Or.inl ⟨by rfl, ?ye9⟩) HSwd1.out ?re9
  case ye9 => (intro w' hSw; clear hSw; go_simp; try with_reducible rfl)
  simp only [List.getElem_toArray, List.getElem_cons_succ, List.getElem_cons_zero, Act.put, List.setIfInBounds_toArray, List.set_cons_zero, List.set_cons_succ]
  refine wpAnyH_take (i := 4) (v := ?ve10) rfl (by kernel_rfl) (by kernel_rfl) (by kernel_rfl) (fun _ _ _ h => h) (Or.inl ⟨by rfl, ?ye10⟩) HSwd1.out ?re10
  case ye10 => (intro w' hSw; have hq_wd1 : Below wd1.heap.size wd1 w' := hSw; have hq := hq_wd1; obtain ⟨s0, s1⟩ := (HG1.out.below (HWd.out.trans (hq.mono HWd.out.size)) HL1.out).cs; obtain ⟨t0, t1⟩ := (HG2.out.below (HWd.out.trans (hq.mono HWd.out.size)) HL2.out).cs; clear hSw; try clear hq hq_wd1; go_simp; try with_reducible rfl)
  simp only [List.getElem_toArray, List.getElem_cons_succ, List.getElem_cons_zero, Act.put, List.setIfInBounds_toArray, List.set_cons_zero, List.set_cons_succ]
  refine wpAnyH_take (i := 5) (v := ?ve11) rfl (by kernel_rfl) (by kernel_rfl) (by kernel_rfl) (fun _ _ _ h => h) (Or.inl ⟨by rfl, ?ye11⟩) HSwd1.out ?re11
  case ye11 => (intro w' hSw; clear hSw; go_simp; try with_reducible rfl)
  simp only [List.getElem_toArray, List.getElem_cons_succ, List.getElem_cons_zero, Act.put, List.setIfInBounds_toArray, List.set_cons_zero, List.set_cons_succ]
  refine wpAnyH_ready (rs := [2]) (by kernel_rfl) (by simp) ?_
  refine AllReadyH.cons rfl (fun K' hK => ?_) AllReadyH.nil
  simp only [List.getElem_toArray, List.getElem_cons_succ, List.getElem_cons_zero]
  go_simp
  refine (CS1.out _ (HN.out.below HWd.out) (HT.out.below HWd.out)).mono ?_
  rintro e' u1 ⟨X1, m1, x1, rfl, hX, hb⟩
  have HU_wd1_u1 := Lib.hid hb
  have HX1 := Lib.hid hX.any; clear hb hX
  refine hK.out _ _ HU_wd1_u1.out (fun _ => ?_)
  clear hK
  try simp only [List.getElem_toArray, List.getElem_cons_succ, List.getElem_cons_zero, Act.put, List.setIfInBounds_toArray, List.set_cons_zero, List.set_cons_succ]
  have HSu1 : Hid (Below u1.heap.size u1 u1) := Lib.hid (Below.refl _ _)
  refine Sha.wpAnyH_more (S' := fun W => Below u1.heap.size u1 W) (fun W h => HU_wd1_u1.out.trans (h.mono HU_wd1_u1.out.size)) _ _ _ _ ?_
  refine wpAnyH_take (i := 3) (v := ?ve12) rfl (by kernel_rfl) (by kernel_rfl) (by kernel_rfl) (fun _ _ _ h => h) (Or.inl ⟨by rfl, ?ye12⟩) HSu1.out ?re12
  case ye12 => (intro w' hSw; have hq_u1 : Below u1.heap.size u1 w' := hSw; have hq_wd1 : Below wd1.heap.size wd1 w' := HU_wd1_u1.out.trans (hSw.mono HU_wd1_u1.out.size); have hq := hq_wd1; have cc1 := (HX1.out.below hq_u1).conv; clear hSw; try clear hq hq_wd1 hq_u1; go_simp; try with_reducible rfl)
  simp only [List.getElem_toArray, List.getElem_cons_succ, List.getElem_cons_zero, Act.put, List.setIfInBounds_toArray, List.set_cons_zero, List.set_cons_succ]
  refine wpAnyH_ready (rs := [6]) (by kernel_rfl) (by simp) ?_
  refine AllReadyH.cons rfl (fun K' hK => ?_) AllReadyH.nil
  simp only [List.getElem_toArray, List.getElem_cons_succ, List.getElem_cons_zero]
  go_simp
  refine (CS2.out _ (HM.out.below (HWd.out.trans (HU_wd1_u1.out.mono HWd.out.size))) (HT.out.below (HWd.out.trans (HU_wd1_u1.out.mono HWd.out.size)))).mono ?_
  rintro e' u2 ⟨X2, m2, x2, rfl, hX, hb⟩
  have HU_u1_u2 := Lib.hid hb
  have HX2 := Lib.hid hX.any; clear hb hX
  have HU_wd1_u2 := Lib.hid (HU_wd1_u1.out.trans (HU_u1_u2.out.mono HU_wd1_u1.out.size))
  refine hK.out _ _ HU_u1_u2.out (fun _ => ?_)
  clear hK
  try simp only [List.getElem_toArray, List.getElem_cons_succ, List.getElem_cons_zero, Act.put, List.setIfInBounds_toArray, List.set_cons_zero, List.set_cons_succ]
  have HSu2 : Hid (Below u2.heap.size u2 u2) := Lib.hid (Below.refl _ _)
  refine Sha.wpAnyH_more (S' := fun W => Below u2.heap.size u2 W) (fun W h => HU_u1_u2.out.trans (h.mono HU_u1_u2.out.size)) _ _ _ _ ?_
  refine wpAnyH_take (i := 7) (v := ?ve13) rfl (by kernel_rfl) (by kernel_rfl) (by kernel_rfl) (fun _ _ _ h => h) (Or.inl ⟨by rfl, ?ye13⟩) HSu2.out ?re13
  case ye13 => (intro w' hSw; have hq_u2 : Below u2.heap.size u2 w' := hSw; have hq_u1 : Below u1.heap.size u1 w' := HU_u1_u2.out.trans (hSw.mono HU_u1_u2.out.size); have hq_wd1 : Below wd1.heap.size wd1 w' := HU_wd1_u2.out.trans (hSw.mono HU_wd1_u2.out.size); have hq := hq_wd1; have cc2 := (HX2.out.below hq_u2).conv; clear hSw; try clear hq hq_wd1 hq_u1 hq_u2; go_simp; try with_reducible rfl)
  simp only [List.getElem_toArray, List.getElem_cons_succ, List.getElem_cons_zero, Act.put, List.setIfInBounds_toArray, List.set_cons_zero, List.set_cons_succ]
  refine wpAnyH_take (i := 8) (v := ?ve14) rfl (by kernel_rfl) (by kernel_rfl) (by kernel_rfl) (fun _ _ _ h => h) (Or.inl ⟨by rfl, ?ye14⟩) HSu2.out ?re14
  case ye14 => (intro w' hSw; clear hSw; go_simp; try with_reducible rfl)
  simp only [List.getElem_toArray, List.getElem_cons_succ, List.getElem_cons_zero, Act.put, List.setIfInBounds_toArray, List.set_cons_zero, List.set_cons_succ]
  refine wpAnyH_done (by kernel_rfl) ?_ _
  change Exit.then _ _ Exit.normal _ _
  have HWe0 : Hid (Below W2.heap.size W2 u2) := Lib.hid (HWd.out.trans ((HU_wd1_u1.out.trans (HU_u1_u2.out.mono HU_wd1_u1.out.size)).mono HWd.out.size))
  have HWe : Hid (Below W2.heap.size W2 u2.drew) := Lib.hid HWe0.out.drew
  clear y1 z1 HX1 HX2 CS1 CS2 HU_wd1_u1 HU_u1_u2 HU_wd1_u2 HSwd1 HSu1 HSu2 HWd
  by_cases hs : pa = pb
  case neg =>
    have hne : pre ns l p ≠ pre ms k q := by rw [HPA.out, HPB.out]; exact hs
    obtain rfl : r = true := by
      rw [← HR.out]
      cases l with
      | zero => unfold clashF; rw [decide_eq_true HS.out, decide_eq_true hne]; rfl
      | succ l => cases k with
        | zero => unfold clashF; rw [decide_eq_true HS.out, decide_eq_true hne]; rfl
        | succ k => unfold clashF; rw [decide_eq_true HS.out, decide_eq_true hne]; rfl
    have HNE := Lib.hid hs
    clear hne hs
    go_wp2_with fail
    try simp only [Act.put]
    refine Wr.region_calm ?_
    refine wp_region_any (by kernel_rfl) ?_
    change wpAny _ _ _ _ _ _ _ (World.drew u2)
    generalize World.drew u2 = wd3 at *
    have HSwd3 : Hid (Below wd3.heap.size wd3 wd3) := Lib.hid (Below.refl _ _)
    refine wpAny_of_held (S := fun W => Below wd3.heap.size wd3 W) _ _ _ _ ?_
    refine wpAnyH_take (i := 0) (v := ?ve15) rfl (by kernel_rfl) (by kernel_rfl) (by kernel_rfl) (fun _ _ _ h => h) (Or.inl ⟨by rfl, ?ye15⟩) HSwd3.out ?re15
    case ye15 => (intro w' hSw; have hq_wd3 : Below wd3.heap.size wd3 w' := hSw; have hq := hq_wd3; obtain ⟨s0, s1⟩ := (HG1.out.below (HWe.out.trans (hq.mono HWe.out.size)) HL1.out).cs; obtain ⟨t0, t1⟩ := (HG2.out.below (HWe.out.trans (hq.mono HWe.out.size)) HL2.out).cs; clear hSw; try clear hq hq_wd3; go_simp; try with_reducible rfl)
    simp only [List.getElem_toArray, List.getElem_cons_succ, List.getElem_cons_zero, Act.put, List.setIfInBounds_toArray, List.set_cons_zero, List.set_cons_succ]
    refine wpAnyH_take (i := 1) (v := ?ve16) rfl (by kernel_rfl) (by kernel_rfl) (by kernel_rfl) (fun _ _ _ h => h) (Or.inl ⟨by rfl, ?ye16⟩) HSwd3.out ?re16
    case ye16 => (intro w' hSw; clear hSw; go_simp; try with_reducible rfl)
    simp only [List.getElem_toArray, List.getElem_cons_succ, List.getElem_cons_zero, Act.put, List.setIfInBounds_toArray, List.set_cons_zero, List.set_cons_succ]
    refine wpAnyH_take (i := 4) (v := ?ve17) rfl (by kernel_rfl) (by kernel_rfl) (by kernel_rfl) (fun _ _ _ h => h) (Or.inl ⟨by rfl, ?ye17⟩) HSwd3.out ?re17
    case ye17 => (intro w' hSw; have hq_wd3 : Below wd3.heap.size wd3 w' := hSw; have hq := hq_wd3; obtain ⟨s0, s1⟩ := (HG1.out.below (HWe.out.trans (hq.mono HWe.out.size)) HL1.out).cs; obtain ⟨t0, t1⟩ := (HG2.out.below (HWe.out.trans (hq.mono HWe.out.size)) HL2.out).cs; clear hSw; try clear hq hq_wd3; go_simp; try with_reducible rfl)
    simp only [List.getElem_toArray, List.getElem_cons_succ, List.getElem_cons_zero, Act.put, List.setIfInBounds_toArray, List.set_cons_zero, List.set_cons_succ]
    refine wpAnyH_take (i := 5) (v := ?ve18) rfl (by kernel_rfl) (by kernel_rfl) (by kernel_rfl) (fun _ _ _ h => h) (Or.inl ⟨by rfl, ?ye18⟩) HSwd3.out ?re18
    case ye18 => (intro w' hSw; clear hSw; go_simp; try with_reducible rfl)
    simp only [List.getElem_toArray, List.getElem_cons_succ, List.getElem_cons_zero, Act.put, List.setIfInBounds_toArray, List.set_cons_zero, List.set_cons_succ]
    refine wpAnyH_ready (rs := [2]) (by kernel_rfl) (by simp) ?_
    refine AllReadyH.cons rfl (fun K' hK => ?_) AllReadyH.nil
    simp only [List.getElem_toArray, List.getElem_cons_succ, List.getElem_cons_zero]
    go_simp
    refine (CP1.out _ (HN.out.below HWe.out) (HT.out.below HWe.out)).mono ?_
    rintro e' u3 ⟨Y1, k1, z1, rfl, hX, hb⟩
    have HU_wd3_u3 := Lib.hid hb
    have HY1 := Lib.hid hX.any; clear hb hX
    refine hK.out _ _ HU_wd3_u3.out (fun _ => ?_)
    clear hK
    try simp only [List.getElem_toArray, List.getElem_cons_succ, List.getElem_cons_zero, Act.put, List.setIfInBounds_toArray, List.set_cons_zero, List.set_cons_succ]
    have HSu3 : Hid (Below u3.heap.size u3 u3) := Lib.hid (Below.refl _ _)
    refine Sha.wpAnyH_more (S' := fun W => Below u3.heap.size u3 W) (fun W h => HU_wd3_u3.out.trans (h.mono HU_wd3_u3.out.size)) _ _ _ _ ?_
    refine wpAnyH_take (i := 3) (v := ?ve19) rfl (by kernel_rfl) (by kernel_rfl) (by kernel_rfl) (fun _ _ _ h => h) (Or.inl ⟨by rfl, ?ye19⟩) HSu3.out ?re19
    case ye19 => (intro w' hSw; have hq_u3 : Below u3.heap.size u3 w' := hSw; have hq_wd3 : Below wd3.heap.size wd3 w' := HU_wd3_u3.out.trans (hSw.mono HU_wd3_u3.out.size); have hq := hq_wd3; have cc1 := (HY1.out.below hq_u3).conv; clear hSw; try clear hq hq_wd3 hq_u3; go_simp; try with_reducible rfl)
    simp only [List.getElem_toArray, List.getElem_cons_succ, List.getElem_cons_zero, Act.put, List.setIfInBounds_toArray, List.set_cons_zero, List.set_cons_succ]
    refine wpAnyH_ready (rs := [6]) (by kernel_rfl) (by simp) ?_
    refine AllReadyH.cons rfl (fun K' hK => ?_) AllReadyH.nil
    simp only [List.getElem_toArray, List.getElem_cons_succ, List.getElem_cons_zero]
    go_simp
    refine (CP2.out _ (HM.out.below (HWe.out.trans (HU_wd3_u3.out.mono HWe.out.size))) (HT.out.below (HWe.out.trans (HU_wd3_u3.out.mono HWe.out.size)))).mono ?_
    rintro e' u4 ⟨Y2, k2, z2, rfl, hX, hb⟩
    have HU_u3_u4 := Lib.hid hb
    have HY2 := Lib.hid hX.any; clear hb hX
    have y2 : ((txt pa).toList == (txt pb).toList) = false := by
      have hh := Wr.txt_beq HY1.out.lt HY2.out.lt
      rw [decide_eq_false HNE.out] at hh
      exact hh
    have HU_wd3_u4 := Lib.hid (HU_wd3_u3.out.trans (HU_u3_u4.out.mono HU_wd3_u3.out.size))
    refine hK.out _ _ HU_u3_u4.out (fun _ => ?_)
    clear hK
    try simp only [List.getElem_toArray, List.getElem_cons_succ, List.getElem_cons_zero, Act.put, List.setIfInBounds_toArray, List.set_cons_zero, List.set_cons_succ]
    have HSu4 : Hid (Below u4.heap.size u4 u4) := Lib.hid (Below.refl _ _)
    refine Sha.wpAnyH_more (S' := fun W => Below u4.heap.size u4 W) (fun W h => HU_u3_u4.out.trans (h.mono HU_u3_u4.out.size)) _ _ _ _ ?_
    refine wpAnyH_take (i := 7) (v := ?ve20) rfl (by kernel_rfl) (by kernel_rfl) (by kernel_rfl) (fun _ _ _ h => h) (Or.inl ⟨by rfl, ?ye20⟩) HSu4.out ?re20
    case ye20 => (intro w' hSw; have hq_u4 : Below u4.heap.size u4 w' := hSw; have hq_u3 : Below u3.heap.size u3 w' := HU_u3_u4.out.trans (hSw.mono HU_u3_u4.out.size); have hq_wd3 : Below wd3.heap.size wd3 w' := HU_wd3_u4.out.trans (hSw.mono HU_wd3_u4.out.size); have hq := hq_wd3; have cc2 := (HY2.out.below hq_u4).conv; clear hSw; try clear hq hq_wd3 hq_u3 hq_u4; go_simp; try with_reducible rfl)
    simp only [List.getElem_toArray, List.getElem_cons_succ, List.getElem_cons_zero, Act.put, List.setIfInBounds_toArray, List.set_cons_zero, List.set_cons_succ]
    refine wpAnyH_take (i := 8) (v := ?ve21) rfl (by kernel_rfl) (by kernel_rfl) (by kernel_rfl) (fun _ _ _ h => h) (Or.inl ⟨by rfl, ?ye21⟩) HSu4.out ?re21
    case ye21 => (intro w' hSw; clear hSw; go_simp; try with_reducible rfl)
    simp only [List.getElem_toArray, List.getElem_cons_succ, List.getElem_cons_zero, Act.put, List.setIfInBounds_toArray, List.set_cons_zero, List.set_cons_succ]
    refine wpAnyH_done (by kernel_rfl) ?_ _
    change Exit.then _ _ Exit.normal _ _
    go_wp2
    go_ret
    exact ⟨rfl, B2.out.trans ((HWe.out.trans ((HU_wd3_u3.out.trans (HU_u3_u4.out.mono HU_wd3_u3.out.size)).mono HWe.out.size)).mono B2.out.size)⟩
  have HPR : Hid (¬ (pre ns l p ≠ pre ms k q)) := Lib.hid (fun h => h (by rw [HPA.out, HPB.out, hs]))
  clear HPA HPB
  subst hs
  have y1 : ((txt pa).toList != (txt pa).toList) = false := by rw [bne]; simp
  go_wp2_with fail
  try simp only [Act.put]
  refine Wr.region_calm ?_
  refine wp_region_any (by kernel_rfl) ?_
  change wpAny _ _ _ _ _ _ _ (World.drew u2)
  generalize World.drew u2 = wd3 at *
  have HSwd3 : Hid (Below wd3.heap.size wd3 wd3) := Lib.hid (Below.refl _ _)
  refine wpAny_of_held (S := fun W => Below wd3.heap.size wd3 W) _ _ _ _ ?_
  refine wpAnyH_take (i := 0) (v := ?ve22) rfl (by kernel_rfl) (by kernel_rfl) (by kernel_rfl) (fun _ _ _ h => h) (Or.inl ⟨by rfl, ?ye22⟩) HSwd3.out ?re22
  case ye22 => (intro w' hSw; have hq_wd3 : Below wd3.heap.size wd3 w' := hSw; have hq := hq_wd3; obtain ⟨s0, s1⟩ := (HG1.out.below (HWe.out.trans (hq.mono HWe.out.size)) HL1.out).cs; obtain ⟨t0, t1⟩ := (HG2.out.below (HWe.out.trans (hq.mono HWe.out.size)) HL2.out).cs; clear hSw; try clear hq hq_wd3; go_simp; try with_reducible rfl)
  simp only [List.getElem_toArray, List.getElem_cons_succ, List.getElem_cons_zero, Act.put, List.setIfInBounds_toArray, List.set_cons_zero, List.set_cons_succ]
  refine wpAnyH_take (i := 1) (v := ?ve23) rfl (by kernel_rfl) (by kernel_rfl) (by kernel_rfl) (fun _ _ _ h => h) (Or.inl ⟨by rfl, ?ye23⟩) HSwd3.out ?re23
  case ye23 => (intro w' hSw; clear hSw; go_simp; try with_reducible rfl)
  simp only [List.getElem_toArray, List.getElem_cons_succ, List.getElem_cons_zero, Act.put, List.setIfInBounds_toArray, List.set_cons_zero, List.set_cons_succ]
  refine wpAnyH_take (i := 4) (v := ?ve24) rfl (by kernel_rfl) (by kernel_rfl) (by kernel_rfl) (fun _ _ _ h => h) (Or.inl ⟨by rfl, ?ye24⟩) HSwd3.out ?re24
  case ye24 => (intro w' hSw; have hq_wd3 : Below wd3.heap.size wd3 w' := hSw; have hq := hq_wd3; obtain ⟨s0, s1⟩ := (HG1.out.below (HWe.out.trans (hq.mono HWe.out.size)) HL1.out).cs; obtain ⟨t0, t1⟩ := (HG2.out.below (HWe.out.trans (hq.mono HWe.out.size)) HL2.out).cs; clear hSw; try clear hq hq_wd3; go_simp; try with_reducible rfl)
  simp only [List.getElem_toArray, List.getElem_cons_succ, List.getElem_cons_zero, Act.put, List.setIfInBounds_toArray, List.set_cons_zero, List.set_cons_succ]
  refine wpAnyH_take (i := 5) (v := ?ve25) rfl (by kernel_rfl) (by kernel_rfl) (by kernel_rfl) (fun _ _ _ h => h) (Or.inl ⟨by rfl, ?ye25⟩) HSwd3.out ?re25
  case ye25 => (intro w' hSw; clear hSw; go_simp; try with_reducible rfl)
  simp only [List.getElem_toArray, List.getElem_cons_succ, List.getElem_cons_zero, Act.put, List.setIfInBounds_toArray, List.set_cons_zero, List.set_cons_succ]
  refine wpAnyH_ready (rs := [2]) (by kernel_rfl) (by simp) ?_
  refine AllReadyH.cons rfl (fun K' hK => ?_) AllReadyH.nil
  simp only [List.getElem_toArray, List.getElem_cons_succ, List.getElem_cons_zero]
  go_simp
  refine (CP1.out _ (HN.out.below HWe.out) (HT.out.below HWe.out)).mono ?_
  rintro e' u3 ⟨Y1, k1, z1, rfl, hX, hb⟩
  have HU_wd3_u3 := Lib.hid hb
  have HY1 := Lib.hid hX.any; clear hb hX
  refine hK.out _ _ HU_wd3_u3.out (fun _ => ?_)
  clear hK
  try simp only [List.getElem_toArray, List.getElem_cons_succ, List.getElem_cons_zero, Act.put, List.setIfInBounds_toArray, List.set_cons_zero, List.set_cons_succ]
  have HSu3 : Hid (Below u3.heap.size u3 u3) := Lib.hid (Below.refl _ _)
  refine Sha.wpAnyH_more (S' := fun W => Below u3.heap.size u3 W) (fun W h => HU_wd3_u3.out.trans (h.mono HU_wd3_u3.out.size)) _ _ _ _ ?_
  refine wpAnyH_take (i := 3) (v := ?ve26) rfl (by kernel_rfl) (by kernel_rfl) (by kernel_rfl) (fun _ _ _ h => h) (Or.inl ⟨by rfl, ?ye26⟩) HSu3.out ?re26
  case ye26 => (intro w' hSw; have hq_u3 : Below u3.heap.size u3 w' := hSw; have hq_wd3 : Below wd3.heap.size wd3 w' := HU_wd3_u3.out.trans (hSw.mono HU_wd3_u3.out.size); have hq := hq_wd3; have cc1 := (HY1.out.below hq_u3).conv; clear hSw; try clear hq hq_wd3 hq_u3; go_simp; try with_reducible rfl)
  simp only [List.getElem_toArray, List.getElem_cons_succ, List.getElem_cons_zero, Act.put, List.setIfInBounds_toArray, List.set_cons_zero, List.set_cons_succ]
  refine wpAnyH_ready (rs := [6]) (by kernel_rfl) (by simp) ?_
  refine AllReadyH.cons rfl (fun K' hK => ?_) AllReadyH.nil
  simp only [List.getElem_toArray, List.getElem_cons_succ, List.getElem_cons_zero]
  go_simp
  refine (CP2.out _ (HM.out.below (HWe.out.trans (HU_wd3_u3.out.mono HWe.out.size))) (HT.out.below (HWe.out.trans (HU_wd3_u3.out.mono HWe.out.size)))).mono ?_
  rintro e' u4 ⟨Y2, k2, z2, rfl, hX, hb⟩
  have HU_u3_u4 := Lib.hid hb
  have HY2 := Lib.hid hX.any; clear hb hX
  have HU_wd3_u4 := Lib.hid (HU_wd3_u3.out.trans (HU_u3_u4.out.mono HU_wd3_u3.out.size))
  refine hK.out _ _ HU_u3_u4.out (fun _ => ?_)
  clear hK
  try simp only [List.getElem_toArray, List.getElem_cons_succ, List.getElem_cons_zero, Act.put, List.setIfInBounds_toArray, List.set_cons_zero, List.set_cons_succ]
  have HSu4 : Hid (Below u4.heap.size u4 u4) := Lib.hid (Below.refl _ _)
  refine Sha.wpAnyH_more (S' := fun W => Below u4.heap.size u4 W) (fun W h => HU_u3_u4.out.trans (h.mono HU_u3_u4.out.size)) _ _ _ _ ?_
  refine wpAnyH_take (i := 7) (v := ?ve27) rfl (by kernel_rfl) (by kernel_rfl) (by kernel_rfl) (fun _ _ _ h => h) (Or.inl ⟨by rfl, ?ye27⟩) HSu4.out ?re27
  case ye27 => (intro w' hSw; have hq_u4 : Below u4.heap.size u4 w' := hSw; have hq_u3 : Below u3.heap.size u3 w' := HU_u3_u4.out.trans (hSw.mono HU_u3_u4.out.size); have hq_wd3 : Below wd3.heap.size wd3 w' := HU_wd3_u4.out.trans (hSw.mono HU_wd3_u4.out.size); have hq := hq_wd3; have cc2 := (HY2.out.below hq_u4).conv; clear hSw; try clear hq hq_wd3 hq_u3 hq_u4; go_simp; try with_reducible rfl)
  simp only [List.getElem_toArray, List.getElem_cons_succ, List.getElem_cons_zero, Act.put, List.setIfInBounds_toArray, List.set_cons_zero, List.set_cons_succ]
  refine wpAnyH_take (i := 8) (v := ?ve28) rfl (by kernel_rfl) (by kernel_rfl) (by kernel_rfl) (fun _ _ _ h => h) (Or.inl ⟨by rfl, ?ye28⟩) HSu4.out ?re28
  case ye28 => (intro w' hSw; clear hSw; go_simp; try with_reducible rfl)
  simp only [List.getElem_toArray, List.getElem_cons_succ, List.getElem_cons_zero, Act.put, List.setIfInBounds_toArray, List.set_cons_zero, List.set_cons_succ]
  refine wpAnyH_done (by kernel_rfl) ?_ _
  change Exit.then _ _ Exit.normal _ _
  have HWf0 : Hid (Below W2.heap.size W2 u4) := Lib.hid (HWe.out.trans ((HU_wd3_u3.out.trans (HU_u3_u4.out.mono HU_wd3_u3.out.size)).mono HWe.out.size))
  have HWf : Hid (Below W2.heap.size W2 u4.drew) := Lib.hid HWf0.out.drew
  clear y1 HY1 HY2 CP1 CP2 HU_wd3_u3 HU_u3_u4 HU_wd3_u4 HSwd3 HSu3 HSu4 HWe HWe0
  cases l with
  | zero =>
    have o := HO1.out
    rw [show compare 0 0 = Ordering.eq from rfl] at o
    obtain rfl : r = false := by rw [← HR.out]; unfold clashF; rw [decide_eq_false HPR.out, Bool.and_false]
    go_wp2
    go_ret
    exact ⟨rfl, B2.out.trans (HWf0.out.mono B2.out.size)⟩
  | succ l =>
  have o := HO1.out
  rw [show compare (l + 1) 0 = Ordering.gt from Nat.compare_eq_gt.2 (by omega)] at o
  cases k with
  | zero =>
    have o' := HO2.out
    rw [show compare 0 0 = Ordering.eq from rfl] at o'
    obtain rfl : r = false := by rw [← HR.out]; unfold clashF; rw [decide_eq_false HPR.out, Bool.and_false]
    go_wp2
    go_ret
    exact ⟨rfl, B2.out.trans (HWf0.out.mono B2.out.size)⟩
  | succ k =>
  have o' := HO2.out
  rw [show compare (k + 1) 0 = Ordering.gt from Nat.compare_eq_gt.2 (by omega)] at o'
  have HDA1 : Hid (Sp.DnC rl rp false (Fl.fl l) (Fl.fl (2 * p))) := Lib.hid (down_to HIA.out false)
  have HDA2 : Hid (Sp.DnC rl rp true (Fl.fl l) (Fl.fl (2 * p + 1))) := Lib.hid (down_to HIA.out true)
  have HDB1 : Hid (Sp.DnC rk rq false (Fl.fl k) (Fl.fl (2 * q))) := Lib.hid (down_to HIB.out false)
  have HDB2 : Hid (Sp.DnC rk rq true (Fl.fl k) (Fl.fl (2 * q + 1))) := Lib.hid (down_to HIB.out true)
  have IH1 := Lib.hid (HI1.out l k rfl rfl); have IH2 := Lib.hid (HI2.out l k rfl rfl)
  unfold HalfC at IH1 IH2
  have hrr : r = (clashF ns ms l (2 * p) k (2 * q) || clashF ns ms l (2 * p + 1) k (2 * q + 1)) := by
    rw [← HR.out, clashF, decide_eq_true HS.out, decide_eq_false HPR.out]; rfl
  obtain ⟨b1, hb1⟩ : ∃ b, clashF ns ms l (2 * p) k (2 * q) = b := ⟨_, rfl⟩
  obtain ⟨b2, hb2⟩ : ∃ b, clashF ns ms l (2 * p + 1) k (2 * q + 1) = b := ⟨_, rfl⟩
  rw [hb1, hb2] at hrr
  rw [hb1] at IH1
  rw [hb2] at IH2
  clear hb1 hb2 HR HI1 HI2
  go_wp2_with fail
  clear o o'
  cases b1 with
  | true =>
    obtain rfl : r = true := by simpa using hrr
    clear hrr
    try simp only [Act.put]
    refine Wr.region_calm ?_
    refine wp_region_any (by kernel_rfl) ?_
    change wpAny _ _ _ _ _ _ _ (World.drew u4)
    generalize World.drew u4 = wd7 at *
    have HSwd7 : Hid (Below wd7.heap.size wd7 wd7) := Lib.hid (Below.refl _ _)
    refine wpAny_of_held (S := fun W => Below wd7.heap.size wd7 W) _ _ _ _ ?_
    refine wpAnyH_take (i := 0) (v := ?ve29) rfl (by kernel_rfl) (by kernel_rfl) (by kernel_rfl) (fun _ _ _ h => h) (Or.inl ⟨by rfl, ?ye29⟩) HSwd7.out ?re29
    case ye29 => (intro w' hSw; have hq_wd7 : Below wd7.heap.size wd7 w' := hSw; have hq := hq_wd7; obtain ⟨s0, s1⟩ := (HG1.out.below (HWf.out.trans (hq.mono HWf.out.size)) HL1.out).cs; obtain ⟨t0, t1⟩ := (HG2.out.below (HWf.out.trans (hq.mono HWf.out.size)) HL2.out).cs; clear hSw; try clear hq hq_wd7; go_simp; try with_reducible rfl)
    simp only [List.getElem_toArray, List.getElem_cons_succ, List.getElem_cons_zero, Act.put, List.setIfInBounds_toArray, List.set_cons_zero, List.set_cons_succ]
    refine wpAnyH_take (i := 1) (v := ?ve30) rfl (by kernel_rfl) (by kernel_rfl) (by kernel_rfl) (fun _ _ _ h => h) (Or.inl ⟨by rfl, ?ye30⟩) HSwd7.out ?re30
    case ye30 => (intro w' hSw; clear hSw; go_simp; try with_reducible rfl)
    simp only [List.getElem_toArray, List.getElem_cons_succ, List.getElem_cons_zero, Act.put, List.setIfInBounds_toArray, List.set_cons_zero, List.set_cons_succ]
    refine wpAnyH_take (i := 3) (v := ?ve31) rfl (by kernel_rfl) (by kernel_rfl) (by kernel_rfl) (fun _ _ _ h => h) (Or.inl ⟨by rfl, ?ye31⟩) HSwd7.out ?re31
    case ye31 => (intro w' hSw; have hq_wd7 : Below wd7.heap.size wd7 w' := hSw; have hq := hq_wd7; obtain ⟨s0, s1⟩ := (HG1.out.below (HWf.out.trans (hq.mono HWf.out.size)) HL1.out).cs; obtain ⟨t0, t1⟩ := (HG2.out.below (HWf.out.trans (hq.mono HWf.out.size)) HL2.out).cs; clear hSw; try clear hq hq_wd7; go_simp; try with_reducible rfl)
    simp only [List.getElem_toArray, List.getElem_cons_succ, List.getElem_cons_zero, Act.put, List.setIfInBounds_toArray, List.set_cons_zero, List.set_cons_succ]
    refine wpAnyH_take (i := 4) (v := ?ve32) rfl (by kernel_rfl) (by kernel_rfl) (by kernel_rfl) (fun _ _ _ h => h) (Or.inl ⟨by rfl, ?ye32⟩) HSwd7.out ?re32
    case ye32 => (intro w' hSw; clear hSw; go_simp; try with_reducible rfl)
    simp only [List.getElem_toArray, List.getElem_cons_succ, List.getElem_cons_zero, Act.put, List.setIfInBounds_toArray, List.set_cons_zero, List.set_cons_succ]
    refine wpAnyH_ready (rs := [2]) (by kernel_rfl) (by simp) ?_
    refine AllReadyH.cons rfl (fun K' hK => ?_) AllReadyH.nil
    simp only [List.getElem_toArray, List.getElem_cons_succ, List.getElem_cons_zero]
    go_simp
    refine (Sp.rdown_c HDA1.out _).mono ?_
    rintro e' d1 ⟨rfl, hb⟩
    have HU_wd7_d1 := Lib.hid hb
    clear hb
    refine hK.out _ _ HU_wd7_d1.out (fun _ => ?_)
    clear hK
    try simp only [List.getElem_toArray, List.getElem_cons_succ, List.getElem_cons_zero, Act.put, List.setIfInBounds_toArray, List.set_cons_zero, List.set_cons_succ]
    have HSd1 : Hid (Below d1.heap.size d1 d1) := Lib.hid (Below.refl _ _)
    refine Sha.wpAnyH_more (S' := fun W => Below d1.heap.size d1 W) (fun W h => HU_wd7_d1.out.trans (h.mono HU_wd7_d1.out.size)) _ _ _ _ ?_
    refine wpAnyH_ready (rs := [5]) (by kernel_rfl) (by simp) ?_
    refine AllReadyH.cons rfl (fun K' hK => ?_) AllReadyH.nil
    simp only [List.getElem_toArray, List.getElem_cons_succ, List.getElem_cons_zero]
    go_simp
    refine (Sp.rdown_c HDB1.out _).mono ?_
    rintro e' d2 ⟨rfl, hb⟩
    have HU_d1_d2 := Lib.hid hb
    clear hb
    have HU_wd7_d2 := Lib.hid (HU_wd7_d1.out.trans (HU_d1_d2.out.mono HU_wd7_d1.out.size))
    refine hK.out _ _ HU_d1_d2.out (fun _ => ?_)
    clear hK
    try simp only [List.getElem_toArray, List.getElem_cons_succ, List.getElem_cons_zero, Act.put, List.setIfInBounds_toArray, List.set_cons_zero, List.set_cons_succ]
    have HSd2 : Hid (Below d2.heap.size d2 d2) := Lib.hid (Below.refl _ _)
    refine Sha.wpAnyH_more (S' := fun W => Below d2.heap.size d2 W) (fun W h => HU_d1_d2.out.trans (h.mono HU_d1_d2.out.size)) _ _ _ _ ?_
    refine wpAnyH_ready (rs := [6]) (by kernel_rfl) (by simp) ?_
    refine AllReadyH.cons rfl (fun K' hK => ?_) AllReadyH.nil
    simp only [List.getElem_toArray, List.getElem_cons_succ, List.getElem_cons_zero]
    go_simp
    refine (IH1.out _ (HN.out.below (HWf.out.trans (HU_wd7_d2.out.mono HWf.out.size))) (HM.out.below (HWf.out.trans (HU_wd7_d2.out.mono HWf.out.size))) (HT.out.below (HWf.out.trans (HU_wd7_d2.out.mono HWf.out.size)))).mono ?_
    rintro e' d3 ⟨rfl, hb⟩
    have HU_d2_d3 := Lib.hid hb
    clear hb
    have HU_d1_d3 := Lib.hid (HU_d1_d2.out.trans (HU_d2_d3.out.mono HU_d1_d2.out.size))
    have HU_wd7_d3 := Lib.hid (HU_wd7_d2.out.trans (HU_d2_d3.out.mono HU_wd7_d2.out.size))
    refine hK.out _ _ HU_d2_d3.out (fun _ => ?_)
    clear hK
    try simp only [List.getElem_toArray, List.getElem_cons_succ, List.getElem_cons_zero, Act.put, List.setIfInBounds_toArray, List.set_cons_zero, List.set_cons_succ]
    have HSd3 : Hid (Below d3.heap.size d3 d3) := Lib.hid (Below.refl _ _)
    refine Sha.wpAnyH_more (S' := fun W => Below d3.heap.size d3 W) (fun W h => HU_d2_d3.out.trans (h.mono HU_d2_d3.out.size)) _ _ _ _ ?_
    refine wpAnyH_take (i := 7) (v := ?ve33) rfl (by kernel_rfl) (by kernel_rfl) (by kernel_rfl) (fun _ _ _ h => h) (Or.inl ⟨by rfl, ?ye33⟩) HSd3.out ?re33
    case ye33 => (intro w' hSw; clear hSw; go_simp; try with_reducible rfl)
    simp only [List.getElem_toArray, List.getElem_cons_succ, List.getElem_cons_zero, Act.put, List.setIfInBounds_toArray, List.set_cons_zero, List.set_cons_succ]
    refine wpAnyH_take (i := 8) (v := undef) rfl (by kernel_rfl) (by kernel_rfl) (by kernel_rfl) (fun _ _ _ h => h) (Or.inr ⟨by rfl, rfl⟩) HSd3.out ?re34
    simp only [List.getElem_toArray, List.getElem_cons_succ, List.getElem_cons_zero, Act.put, List.setIfInBounds_toArray, List.set_cons_zero, List.set_cons_succ]
    refine wpAnyH_take (i := 9) (v := undef) rfl (by kernel_rfl) (by kernel_rfl) (by kernel_rfl) (fun _ _ _ h => h) (Or.inr ⟨by rfl, rfl⟩) HSd3.out ?re35
    simp only [List.getElem_toArray, List.getElem_cons_succ, List.getElem_cons_zero, Act.put, List.setIfInBounds_toArray, List.set_cons_zero, List.set_cons_succ]
    refine wpAnyH_take (i := 10) (v := undef) rfl (by kernel_rfl) (by kernel_rfl) (by kernel_rfl) (fun _ _ _ h => h) (Or.inr ⟨by rfl, rfl⟩) HSd3.out ?re36
    simp only [List.getElem_toArray, List.getElem_cons_succ, List.getElem_cons_zero, Act.put, List.setIfInBounds_toArray, List.set_cons_zero, List.set_cons_succ]
    refine wpAnyH_take (i := 11) (v := undef) rfl (by kernel_rfl) (by kernel_rfl) (by kernel_rfl) (fun _ _ _ h => h) (Or.inr ⟨by rfl, rfl⟩) HSd3.out ?re37
    simp only [List.getElem_toArray, List.getElem_cons_succ, List.getElem_cons_zero, Act.put, List.setIfInBounds_toArray, List.set_cons_zero, List.set_cons_succ]
    refine wpAnyH_take (i := 12) (v := undef) rfl (by kernel_rfl) (by kernel_rfl) (by kernel_rfl) (fun _ _ _ h => h) (Or.inr ⟨by rfl, rfl⟩) HSd3.out ?re38
    simp only [List.getElem_toArray, List.getElem_cons_succ, List.getElem_cons_zero, Act.put, List.setIfInBounds_toArray, List.set_cons_zero, List.set_cons_succ]
    refine wpAnyH_take (i := 13) (v := undef) rfl (by kernel_rfl) (by kernel_rfl) (by kernel_rfl) (fun _ _ _ h => h) (Or.inr ⟨by rfl, rfl⟩) HSd3.out ?re39
    simp only [List.getElem_toArray, List.getElem_cons_succ, List.getElem_cons_zero, Act.put, List.setIfInBounds_toArray, List.set_cons_zero, List.set_cons_succ]
    refine wpAnyH_take (i := 14) (v := undef) rfl (by kernel_rfl) (by kernel_rfl) (by kernel_rfl) (fun _ _ _ h => h) (Or.inr ⟨by rfl, rfl⟩) HSd3.out ?re40
    simp only [List.getElem_toArray, List.getElem_cons_succ, List.getElem_cons_zero, Act.put, List.setIfInBounds_toArray, List.set_cons_zero, List.set_cons_succ]
    refine wpAnyH_take (i := 15) (v := ?ve41) rfl (by kernel_rfl) (by kernel_rfl) (by kernel_rfl) (fun _ _ _ h => h) (Or.inl ⟨by rfl, ?ye41⟩) HSd3.out ?re41
    case ye41 => (intro w' hSw; clear hSw; go_simp; try with_reducible rfl)
    simp only [List.getElem_toArray, List.getElem_cons_succ, List.getElem_cons_zero, Act.put, List.setIfInBounds_toArray, List.set_cons_zero, List.set_cons_succ]
    refine wpAnyH_take (i := 16) (v := ?ve42) rfl (by kernel_rfl) (by kernel_rfl) (by kernel_rfl) (fun _ _ _ h => h) (Or.inl ⟨by rfl, ?ye42⟩) HSd3.out ?re42
    case ye42 => (intro w' hSw; clear hSw; go_simp; try with_reducible rfl)
    simp only [List.getElem_toArray, List.getElem_cons_succ, List.getElem_cons_zero, Act.put, List.setIfInBounds_toArray, List.set_cons_zero, List.set_cons_succ]
    refine wpAnyH_done (by kernel_rfl) ?_ _
    change Exit.then _ _ Exit.normal _ _
    go_wp2
    go_ret
    exact ⟨rfl, B2.out.trans ((HWf.out.trans (HU_wd7_d3.out.mono HWf.out.size)).mono B2.out.size)⟩
  | false =>
    obtain rfl : r = b2 := by simpa using hrr
    clear hrr
    try simp only [Act.put]
    refine Wr.region_calm ?_
    refine wp_region_any (by kernel_rfl) ?_
    change wpAny _ _ _ _ _ _ _ (World.drew u4)
    generalize World.drew u4 = wd7 at *
    have HSwd7 : Hid (Below wd7.heap.size wd7 wd7) := Lib.hid (Below.refl _ _)
    refine wpAny_of_held (S := fun W => Below wd7.heap.size wd7 W) _ _ _ _ ?_
    refine wpAnyH_take (i := 0) (v := ?ve43) rfl (by kernel_rfl) (by kernel_rfl) (by kernel_rfl) (fun _ _ _ h => h) (Or.inl ⟨by rfl, ?ye43⟩) HSwd7.out ?re43
    case ye43 => (intro w' hSw; have hq_wd7 : Below wd7.heap.size wd7 w' := hSw; have hq := hq_wd7; obtain ⟨s0, s1⟩ := (HG1.out.below (HWf.out.trans (hq.mono HWf.out.size)) HL1.out).cs; obtain ⟨t0, t1⟩ := (HG2.out.below (HWf.out.trans (hq.mono HWf.out.size)) HL2.out).cs; clear hSw; try clear hq hq_wd7; go_simp; try with_reducible rfl)
    simp only [List.getElem_toArray, List.getElem_cons_succ, List.getElem_cons_zero, Act.put, List.setIfInBounds_toArray, List.set_cons_zero, List.set_cons_succ]
    refine wpAnyH_take (i := 1) (v := ?ve44) rfl (by kernel_rfl) (by kernel_rfl) (by kernel_rfl) (fun _ _ _ h => h) (Or.inl ⟨by rfl, ?ye44⟩) HSwd7.out ?re44
    case ye44 => (intro w' hSw; clear hSw; go_simp; try with_reducible rfl)
    simp only [List.getElem_toArray, List.getElem_cons_succ, List.getElem_cons_zero, Act.put, List.setIfInBounds_toArray, List.set_cons_zero, List.set_cons_succ]
    refine wpAnyH_take (i := 3) (v := ?ve45) rfl (by kernel_rfl) (by kernel_rfl) (by kernel_rfl) (fun _ _ _ h => h) (Or.inl ⟨by rfl, ?ye45⟩) HSwd7.out ?re45
    case ye45 => (intro w' hSw; have hq_wd7 : Below wd7.heap.size wd7 w' := hSw; have hq := hq_wd7; obtain ⟨s0, s1⟩ := (HG1.out.below (HWf.out.trans (hq.mono HWf.out.size)) HL1.out).cs; obtain ⟨t0, t1⟩ := (HG2.out.below (HWf.out.trans (hq.mono HWf.out.size)) HL2.out).cs; clear hSw; try clear hq hq_wd7; go_simp; try with_reducible rfl)
    simp only [List.getElem_toArray, List.getElem_cons_succ, List.getElem_cons_zero, Act.put, List.setIfInBounds_toArray, List.set_cons_zero, List.set_cons_succ]
    refine wpAnyH_take (i := 4) (v := ?ve46) rfl (by kernel_rfl) (by kernel_rfl) (by kernel_rfl) (fun _ _ _ h => h) (Or.inl ⟨by rfl, ?ye46⟩) HSwd7.out ?re46
    case ye46 => (intro w' hSw; clear hSw; go_simp; try with_reducible rfl)
    simp only [List.getElem_toArray, List.getElem_cons_succ, List.getElem_cons_zero, Act.put, List.setIfInBounds_toArray, List.set_cons_zero, List.set_cons_succ]
    refine wpAnyH_ready (rs := [2]) (by kernel_rfl) (by simp) ?_
    refine AllReadyH.cons rfl (fun K' hK => ?_) AllReadyH.nil
    simp only [List.getElem_toArray, List.getElem_cons_succ, List.getElem_cons_zero]
    go_simp
    refine (Sp.rdown_c HDA1.out _).mono ?_
    rintro e' d1 ⟨rfl, hb⟩
    have HU_wd7_d1 := Lib.hid hb
    clear hb
    refine hK.out _ _ HU_wd7_d1.out (fun _ => ?_)
    clear hK
    try simp only [List.getElem_toArray, List.getElem_cons_succ, List.getElem_cons_zero, Act.put, List.setIfInBounds_toArray, List.set_cons_zero, List.set_cons_succ]
    have HSd1 : Hid (Below d1.heap.size d1 d1) := Lib.hid (Below.refl _ _)
    refine Sha.wpAnyH_more (S' := fun W => Below d1.heap.size d1 W) (fun W h => HU_wd7_d1.out.trans (h.mono HU_wd7_d1.out.size)) _ _ _ _ ?_
    refine wpAnyH_ready (rs := [5]) (by kernel_rfl) (by simp) ?_
    refine AllReadyH.cons rfl (fun K' hK => ?_) AllReadyH.nil
    simp only [List.getElem_toArray, List.getElem_cons_succ, List.getElem_cons_zero]
    go_simp
    refine (Sp.rdown_c HDB1.out _).mono ?_
    rintro e' d2 ⟨rfl, hb⟩
    have HU_d1_d2 := Lib.hid hb
    clear hb
    have HU_wd7_d2 := Lib.hid (HU_wd7_d1.out.trans (HU_d1_d2.out.mono HU_wd7_d1.out.size))
    refine hK.out _ _ HU_d1_d2.out (fun _ => ?_)
    clear hK
    try simp only [List.getElem_toArray, List.getElem_cons_succ, List.getElem_cons_zero, Act.put, List.setIfInBounds_toArray, List.set_cons_zero, List.set_cons_succ]
    have HSd2 : Hid (Below d2.heap.size d2 d2) := Lib.hid (Below.refl _ _)
    refine Sha.wpAnyH_more (S' := fun W => Below d2.heap.size d2 W) (fun W h => HU_d1_d2.out.trans (h.mono HU_d1_d2.out.size)) _ _ _ _ ?_
    refine wpAnyH_ready (rs := [6]) (by kernel_rfl) (by simp) ?_
    refine AllReadyH.cons rfl (fun K' hK => ?_) AllReadyH.nil
    simp only [List.getElem_toArray, List.getElem_cons_succ, List.getElem_cons_zero]
    go_simp
    refine (IH1.out _ (HN.out.below (HWf.out.trans (HU_wd7_d2.out.mono HWf.out.size))) (HM.out.below (HWf.out.trans (HU_wd7_d2.out.mono HWf.out.size))) (HT.out.below (HWf.out.trans (HU_wd7_d2.out.mono HWf.out.size)))).mono ?_
    rintro e' d3 ⟨rfl, hb⟩
    have HU_d2_d3 := Lib.hid hb
    clear hb
    have HU_d1_d3 := Lib.hid (HU_d1_d2.out.trans (HU_d2_d3.out.mono HU_d1_d2.out.size))
    have HU_wd7_d3 := Lib.hid (HU_wd7_d2.out.trans (HU_d2_d3.out.mono HU_wd7_d2.out.size))
    refine hK.out _ _ HU_d2_d3.out (fun _ => ?_)
    clear hK
    try simp only [List.getElem_toArray, List.getElem_cons_succ, List.getElem_cons_zero, Act.put, List.setIfInBounds_toArray, List.set_cons_zero, List.set_cons_succ]
    have HSd3 : Hid (Below d3.heap.size d3 d3) := Lib.hid (Below.refl _ _)
    refine Sha.wpAnyH_more (S' := fun W => Below d3.heap.size d3 W) (fun W h => HU_d2_d3.out.trans (h.mono HU_d2_d3.out.size)) _ _ _ _ ?_
    refine wpAnyH_take (i := 7) (v := ?ve47) rfl (by kernel_rfl) (by kernel_rfl) (by kernel_rfl) (fun _ _ _ h => h) (Or.inl ⟨by rfl, ?ye47⟩) HSd3.out ?re47
    case ye47 => (intro w' hSw; clear hSw; go_simp; try with_reducible rfl)
    simp only [List.getElem_toArray, List.getElem_cons_succ, List.getElem_cons_zero, Act.put, List.setIfInBounds_toArray, List.set_cons_zero, List.set_cons_succ]
    refine wpAnyH_take (i := 8) (v := ?ve48) rfl (by kernel_rfl) (by kernel_rfl) (by kernel_rfl) (fun _ _ _ h => h) (Or.inl ⟨by rfl, ?ye48⟩) HSd3.out ?re48
    case ye48 => (intro w' hSw; have hq_d3 : Below d3.heap.size d3 w' := hSw; have hq_d2 : Below d2.heap.size d2 w' := HU_d2_d3.out.trans (hSw.mono HU_d2_d3.out.size); have hq_d1 : Below d1.heap.size d1 w' := HU_d1_d3.out.trans (hSw.mono HU_d1_d3.out.size); have hq_wd7 : Below wd7.heap.size wd7 w' := HU_wd7_d3.out.trans (hSw.mono HU_wd7_d3.out.size); have hq := hq_wd7; obtain ⟨s0, s1⟩ := (HG1.out.below (HWf.out.trans (hq.mono HWf.out.size)) HL1.out).cs; obtain ⟨t0, t1⟩ := (HG2.out.below (HWf.out.trans (hq.mono HWf.out.size)) HL2.out).cs; clear hSw; try clear hq hq_wd7 hq_d1 hq_d2 hq_d3; go_simp; try with_reducible rfl)
    simp only [List.getElem_toArray, List.getElem_cons_succ, List.getElem_cons_zero, Act.put, List.setIfInBounds_toArray, List.set_cons_zero, List.set_cons_succ]
    refine wpAnyH_take (i := 9) (v := ?ve49) rfl (by kernel_rfl) (by kernel_rfl) (by kernel_rfl) (fun _ _ _ h => h) (Or.inl ⟨by rfl, ?ye49⟩) HSd3.out ?re49
    case ye49 => (intro w' hSw; clear hSw; go_simp; try with_reducible rfl)
    simp only [List.getElem_toArray, List.getElem_cons_succ, List.getElem_cons_zero, Act.put, List.setIfInBounds_toArray, List.set_cons_zero, List.set_cons_succ]
    refine wpAnyH_take (i := 11) (v := ?ve50) rfl (by kernel_rfl) (by kernel_rfl) (by kernel_rfl) (fun _ _ _ h => h) (Or.inl ⟨by rfl, ?ye50⟩) HSd3.out ?re50
    case ye50 => (intro w' hSw; have hq_d3 : Below d3.heap.size d3 w' := hSw; have hq_d2 : Below d2.heap.size d2 w' := HU_d2_d3.out.trans (hSw.mono HU_d2_d3.out.size); have hq_d1 : Below d1.heap.size d1 w' := HU_d1_d3.out.trans (hSw.mono HU_d1_d3.out.size); have hq_wd7 : Below wd7.heap.size wd7 w' := HU_wd7_d3.out.trans (hSw.mono HU_wd7_d3.out.size); have hq := hq_wd7; obtain ⟨s0, s1⟩ := (HG1.out.below (HWf.out.trans (hq.mono HWf.out.size)) HL1.out).cs; obtain ⟨t0, t1⟩ := (HG2.out.below (HWf.out.trans (hq.mono HWf.out.size)) HL2.out).cs; clear hSw; try clear hq hq_wd7 hq_d1 hq_d2 hq_d3; go_simp; try with_reducible rfl)
    simp only [List.getElem_toArray, List.getElem_cons_succ, List.getElem_cons_zero, Act.put, List.setIfInBounds_toArray, List.set_cons_zero, List.set_cons_succ]
    refine wpAnyH_take (i := 12) (v := ?ve51) rfl (by kernel_rfl) (by kernel_rfl) (by kernel_rfl) (fun _ _ _ h => h) (Or.inl ⟨by rfl, ?ye51⟩) HSd3.out ?re51
    case ye51 => (intro w' hSw; clear hSw; go_simp; try with_reducible rfl)
    simp only [List.getElem_toArray, List.getElem_cons_succ, List.getElem_cons_zero, Act.put, List.setIfInBounds_toArray, List.set_cons_zero, List.set_cons_succ]
    refine wpAnyH_ready (rs := [10]) (by kernel_rfl) (by simp) ?_
    refine AllReadyH.cons rfl (fun K' hK => ?_) AllReadyH.nil
    simp only [List.getElem_toArray, List.getElem_cons_succ, List.getElem_cons_zero]
    go_simp
    refine (Sp.rdown_c HDA2.out _).mono ?_
    rintro e' d4 ⟨rfl, hb⟩
    have HU_d3_d4 := Lib.hid hb
    clear hb
    have HU_d2_d4 := Lib.hid (HU_d2_d3.out.trans (HU_d3_d4.out.mono HU_d2_d3.out.size))
    have HU_d1_d4 := Lib.hid (HU_d1_d3.out.trans (HU_d3_d4.out.mono HU_d1_d3.out.size))
    have HU_wd7_d4 := Lib.hid (HU_wd7_d3.out.trans (HU_d3_d4.out.mono HU_wd7_d3.out.size))
    refine hK.out _ _ HU_d3_d4.out (fun _ => ?_)
    clear hK
    try simp only [List.getElem_toArray, List.getElem_cons_succ, List.getElem_cons_zero, Act.put, List.setIfInBounds_toArray, List.set_cons_zero, List.set_cons_succ]
    have HSd4 : Hid (Below d4.heap.size d4 d4) := Lib.hid (Below.refl _ _)
    refine Sha.wpAnyH_more (S' := fun W => Below d4.heap.size d4 W) (fun W h => HU_d3_d4.out.trans (h.mono HU_d3_d4.out.size)) _ _ _ _ ?_
    refine wpAnyH_ready (rs := [13]) (by kernel_rfl) (by simp) ?_
    refine AllReadyH.cons rfl (fun K' hK => ?_) AllReadyH.nil
    simp only [List.getElem_toArray, List.getElem_cons_succ, List.getElem_cons_zero]
    go_simp
    refine (Sp.rdown_c HDB2.out _).mono ?_
    rintro e' d5 ⟨rfl, hb⟩
    have HU_d4_d5 := Lib.hid hb
    clear hb
    have HU_d3_d5 := Lib.hid (HU_d3_d4.out.trans (HU_d4_d5.out.mono HU_d3_d4.out.size))
    have HU_d2_d5 := Lib.hid (HU_d2_d4.out.trans (HU_d4_d5.out.mono HU_d2_d4.out.size))
    have HU_d1_d5 := Lib.hid (HU_d1_d4.out.trans (HU_d4_d5.out.mono HU_d1_d4.out.size))
    have HU_wd7_d5 := Lib.hid (HU_wd7_d4.out.trans (HU_d4_d5.out.mono HU_wd7_d4.out.size))
    refine hK.out _ _ HU_d4_d5.out (fun _ => ?_)
    clear hK
    try simp only [List.getElem_toArray, List.getElem_cons_succ, List.getElem_cons_zero, Act.put, List.setIfInBounds_toArray, List.set_cons_zero, List.set_cons_succ]
    have HSd5 : Hid (Below d5.heap.size d5 d5) := Lib.hid (Below.refl _ _)
    refine Sha.wpAnyH_more (S' := fun W => Below d5.heap.size d5 W) (fun W h => HU_d4_d5.out.trans (h.mono HU_d4_d5.out.size)) _ _ _ _ ?_
    refine wpAnyH_ready (rs := [14]) (by kernel_rfl) (by simp) ?_
    refine AllReadyH.cons rfl (fun K' hK => ?_) AllReadyH.nil
    simp only [List.getElem_toArray, List.getElem_cons_succ, List.getElem_cons_zero]
    go_simp
    refine (IH2.out _ (HN.out.below (HWf.out.trans (HU_wd7_d5.out.mono HWf.out.size))) (HM.out.below (HWf.out.trans (HU_wd7_d5.out.mono HWf.out.size))) (HT.out.below (HWf.out.trans (HU_wd7_d5.out.mono HWf.out.size)))).mono ?_
    rintro e' d6 ⟨rfl, hb⟩
    have HU_d5_d6 := Lib.hid hb
    clear hb
    have HU_d4_d6 := Lib.hid (HU_d4_d5.out.trans (HU_d5_d6.out.mono HU_d4_d5.out.size))
    have HU_d3_d6 := Lib.hid (HU_d3_d5.out.trans (HU_d5_d6.out.mono HU_d3_d5.out.size))
    have HU_d2_d6 := Lib.hid (HU_d2_d5.out.trans (HU_d5_d6.out.mono HU_d2_d5.out.size))
    have HU_d1_d6 := Lib.hid (HU_d1_d5.out.trans (HU_d5_d6.out.mono HU_d1_d5.out.size))
    have HU_wd7_d6 := Lib.hid (HU_wd7_d5.out.trans (HU_d5_d6.out.mono HU_wd7_d5.out.size))
    refine hK.out _ _ HU_d5_d6.out (fun _ => ?_)
    clear hK
    try simp only [List.getElem_toArray, List.getElem_cons_succ, List.getElem_cons_zero, Act.put, List.setIfInBounds_toArray, List.set_cons_zero, List.set_cons_succ]
    have HSd6 : Hid (Below d6.heap.size d6 d6) := Lib.hid (Below.refl _ _)
    refine Sha.wpAnyH_more (S' := fun W => Below d6.heap.size d6 W) (fun W h => HU_d5_d6.out.trans (h.mono HU_d5_d6.out.size)) _ _ _ _ ?_
    refine wpAnyH_take (i := 15) (v := ?ve52) rfl (by kernel_rfl) (by kernel_rfl) (by kernel_rfl) (fun _ _ _ h => h) (Or.inl ⟨by rfl, ?ye52⟩) HSd6.out ?re52
    case ye52 => (intro w' hSw; clear hSw; go_simp; try with_reducible rfl)
    simp only [List.getElem_toArray, List.getElem_cons_succ, List.getElem_cons_zero, Act.put, List.setIfInBounds_toArray, List.set_cons_zero, List.set_cons_succ]
    refine wpAnyH_take (i := 16) (v := ?ve53) rfl (by kernel_rfl) (by kernel_rfl) (by kernel_rfl) (fun _ _ _ h => h) (Or.inl ⟨by rfl, ?ye53⟩) HSd6.out ?re53
    case ye53 => (intro w' hSw; clear hSw; go_simp; try with_reducible rfl)
    simp only [List.getElem_toArray, List.getElem_cons_succ, List.getElem_cons_zero, Act.put, List.setIfInBounds_toArray, List.set_cons_zero, List.set_cons_succ]
    refine wpAnyH_done (by kernel_rfl) ?_ _
    change Exit.then _ _ Exit.normal _ _
    go_wp2
    go_ret
    exact ⟨rfl, B2.out.trans ((HWf.out.trans (HU_wd7_d6.out.mono HWf.out.size)).mono B2.out.size)⟩
theorem clash_is (d : Nat) (A : Option Addr) (n c : Nat) (ns : List Nd) (e : Nat) (B : Option Addr) (m f : Nat) (ms : List Nd) (hR : Right ns d) (hQ : Right ms e) : ∀ l p k q, l ≤ d → p < 2 ^ (d - l) → k ≤ e → q < 2 ^ (e - k) → HalfC d A n c ns e B m f ms l p k q
  | 0, p, k, q, hl, hp, hk, hq => fun w hN hM hT => clash_step d A n c ns e B m f ms 0 p k q w hN hM hT hR hQ hl hp hk hq (fun _ _ h => by omega) (fun _ _ h => by omega)
  | l + 1, p, 0, q, hl, hp, hk, hq => fun w hN hM hT => clash_step d A n c ns e B m f ms (l + 1) p 0 q w hN hM hT hR hQ hl hp hk hq (fun _ _ _ h => by omega) (fun _ _ _ h => by omega)
  | l + 1, p, k + 1, q, hl, hp, hk, hq => fun w hN hM hT => by
    obtain ⟨p1, p2⟩ := half_lt hl hp
    obtain ⟨q1, q2⟩ := half_lt hk hq
    refine clash_step d A n c ns e B m f ms (l + 1) p (k + 1) q w hN hM hT hR hQ hl hp hk hq (fun l' k' h1 h2 => ?_) (fun l' k' h1 h2 => ?_)
    · obtain rfl : l = l' := by omega
      obtain rfl : k = k' := by omega
      exact clash_is d A n c ns e B m f ms hR hQ l (2 * p) k (2 * q) (by omega) p1 (by omega) q1
    · obtain rfl : l = l' := by omega
      obtain rfl : k = k' := by omega
      exact clash_is d A n c ns e B m f ms hR hQ l (2 * p + 1) k (2 * q + 1) (by omega) p2 (by omega) q2
end Go.Proofs.YtophnoaneoeiaaaGreatDoor.Rt
