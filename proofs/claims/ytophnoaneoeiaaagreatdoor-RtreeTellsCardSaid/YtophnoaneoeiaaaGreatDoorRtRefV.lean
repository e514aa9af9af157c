/- Walks: the document's Leaves, Resolve and Sum. Written by tools/mk_rttells.py. -/
import Derived.Test.YtophnoaneoeiaaaGreatDoorRtPre
import Derived.Test.YtophnoaneoeiaaaGreatDoorRtSame
import Derived.Test.YtophnoaneoeiaaaGreatDoorRtRefS
import Derived.Test.YtophnoaneoeiaaaGreatDoorShaM3
namespace Go.Proofs.YtophnoaneoeiaaaGreatDoor.Rt
set_option linter.all false
open Go.RowKit Wr

theorem rsum_own {w : World} {base n c : Nat} {C : Option Addr} {bs : List Nat} (h : w.ownsRow base 5 1 (.slice C n c) n (bcells bs)) (hx : ∀ j, gt bs j < 256) (hm : n ≤ 100000) : Calls Tryz.prog 85 #[.slice C n c] w (Wr.Told (Sha.sum bs) w) := by
  have hl := own_len5 h
  have conv : ∀ e w', Sha.Summed w (Sha.sum bs) e w' → Wr.Told (Sha.sum bs) w e w' := by
    rintro e w' ⟨g, cap, rfl, ho, hb⟩
    obtain ⟨A', c'', e', hX⟩ := Txt.of_own (bs := Sha.sum bs) ho (Sha.sum_lt _)
    exact ⟨A', 32, c'', by rw [e'], hX, hb⟩
  rcases h.2 with ⟨e, h1⟩ | ⟨g, c', cur, e, hg, hc, h1, h2, h3, h4⟩
  · injection e with e1 e2 e3
    subst e1 e2 e3
    obtain rfl : bs = [] := List.eq_nil_of_length_eq_zero hl
    exact (Sha.rsum_any none [] 0 0 w (Sha.Rd.nil _ _ _) rfl (fun _ => rfl) (by omega)).mono conv
  · injection e with e1 e2 e3
    subst e1 e3
    exact (Sha.rsum_any (some ⟨g, 0, none⟩) bs n c w (Sha.rd_of_own h hx (Nat.le_refl _)) hl (fun e => by cases e) hm).mono conv
theorem rests_lt (ns : List Nd) (l p : Nat) : ∀ j, gt (rests ns l p) j < 256 := by
  cases l with
  | zero => intro j; simp [rests, gt]
  | succ l => exact gt_append_lt (sumF_lt _ _ _) (sumF_lt _ _ _)
def SumC (d : Nat) (A : Option Addr) (n c : Nat) (ns : List Nd) (l p : Nat) : Prop :=
  ∀ re im w, Sp.Is re im (some (l, p)) → Nodes Any Any w A n c ns → Calls Tryz.prog 46 #[.agg #[.int .i64 d, .slice A n c], .complex .f64 re im] w (Wr.Told (sumF ns l p) w)

set_option maxHeartbeats 8000000 in
set_option maxRecDepth 100000 in
theorem refSum_step (d : Nat) (A : Option Addr) (n c : Nat) (ns : List Nd) (re im l0 p : Nat) (w : World) (hN : Nodes Any Any w A n c ns) (hR : Right ns d) (hl : l0 ≤ d) (hp : p < 2 ^ (d - l0)) (hS : Sp.Is re im (some (l0, p)))
    (ih1 : ∀ l, l0 = l + 1 → SumC d A n c ns l (2 * p)) (ih2 : ∀ l, l0 = l + 1 → SumC d A n c ns l (2 * p + 1)) :
    Calls Tryz.prog 46 #[.agg #[.int .i64 d, .slice A n c], .complex .f64 re im] w (Wr.Told (sumF ns l0 p) w) := by
  obtain ⟨W0, hW0, g1, hB0⟩ := one_new w d A n c
  have B0 := Lib.hid hB0; have G1 := Lib.hid g1; have HN := Lib.hid hN; have HR := Lib.hid hR; have HIX := Lib.hid (idx_c hS)
  have hg := g1.lt
  have hi : idx l0 p < n := by have := idx_lt hl hp; rw [← hN.len, hR.len]; exact this
  have hev := idx_even l0 p
  have HSM := Lib.hid (hR.small l0 p hl hp)
  obtain ⟨ad, rfl⟩ := hN.some (by omega)
  have HIS := Lib.hid hS; have HJ1 := Lib.hid ih1; have HJ2 := Lib.hid ih2
  clear hN hR g1 hB0 hS ih1 ih2
  obtain ⟨i, hii⟩ : ∃ i, idx l0 p = i := ⟨_, rfl⟩
  have HPX := Lib.hid (show ∀ j, gt (pre ns l0 p) j < 256 by
    obtain ⟨q, _, his⟩ := HN.out.at (idx l0 p) hi
    exact gt_append_lt (nodeB_lt his) (rests_lt ns l0 p))
  have HPRE := Lib.hid (show pre ns l0 p = nodeB (nd ns i) ++ rests ns l0 p by unfold pre; rw [hii])
  rw [hii] at HIX hi hev HSM
  have HID := Lib.hid hii
  clear hii
  have hi' : (i : Int) < (n : Int) := by omega
  go_enter Tryz.func46, Tryz.ntmps46
  go_wp2_with fail
  refine (Sp.rindex_c HIX.out _).mono ?_
  rintro e' w1 ⟨rfl, hb1⟩
  have HB1 := Lib.hid (B0.out.trans (hb1.mono B0.out.size)); have G2 := Lib.hid (G1.out.below hb1 hg)
  have hg1 := G2.out.lt
  clear hb1 hW0
  obtain ⟨q, hat, his⟩ := (HN.out.below HB1.out).at i (by omega)
  obtain ⟨c0, c1, c2, c3, c4, c5⟩ := hat.cells
  obtain ⟨q0, q1⟩ := G2.out.cs
  have HQ := Lib.hid his
  clear hat his
  go_wp2_with fail
  refine (refBytes_own q (nd ns i) _ HQ.out HSM.out).mono ?_
  rintro e' w2 ⟨C, m, cc, rfl, ho, hb2⟩
  obtain ⟨A, hA⟩ : ∃ A, some ad = A := ⟨_, rfl⟩
  rw [hA] at G1 G2 HN HJ1 HJ2 ⊢
  have HI2 : Hid (PrI d A n c w (.slice C m cc) m (nodeB (nd ns i)) w2) := Lib.hid ⟨⟨G2.out.below hb2 hg1, HB1.out.trans (hb2.mono HB1.out.size)⟩, own_downG ho (by omega)⟩
  have hmm := own_len5 ho
  have hm : m ≤ 10000 := by rw [← hmm]; exact nodeB_len HSM.out
  clear q0 q1 c0 c1 c2 c3 c4 c5 ho hb2 HQ G1 G2 HB1 hA hmm
  have HSP := Lib.hid (sum_pre ns l0 p)
  cases l0 with
  | zero =>
    have y1 : (i : Int) % 2 = 0 := by rw [Int.tmod_eq_emod_of_nonneg (by omega)] at hev; simpa using hev
    have y2 : ((i : Int) % 2 == 1) = false := by rw [y1]; rfl
    have y3 : (Int.tmod (i : Int) 2 == 1) = false := by rw [hev]; rfl
    have CS := Lib.hid (rsum_own (bs := pre ns 0 p) (by rw [HPRE.out, show rests ns 0 p = [] from rfl, List.append_nil]; exact HI2.out.own) HPX.out (by omega))
    clear hev
    go_wp2_with (first | (go_at_call 85; refine CS.out.mono ?_; rintro e' w9 ⟨X, mx, cx, rfl, hX, hb⟩; have HX9 := Lib.hid hX; have HB9 := Lib.hid hb; clear hX hb) | go_in)
    go_ret
    exact ⟨X, mx, cx, rfl, by rw [HSP.out]; exact HX9.out.mono (fun b h => ⟨Nat.le_trans HI2.out.s.bl.size h.1, h.2⟩), HI2.out.s.bl.trans (HB9.out.mono HI2.out.s.bl.size)⟩
  | succ l =>
    have y0 : Int.tmod (i : Int) 2 = 1 := by rw [hev, if_neg (by omega)]
    have y1 : (i : Int) % 2 = 1 := by rw [Int.tmod_eq_emod_of_nonneg (by omega)] at y0; exact y0
    have HD1 : Hid (Sp.DnC re im false (Fl.fl l) (Fl.fl (2 * p))) := Lib.hid (down_to HIS.out false)
    have HD2 : Hid (Sp.DnC re im true (Fl.fl l) (Fl.fl (2 * p + 1))) := Lib.hid (down_to HIS.out true)
    obtain ⟨p1, p2⟩ := half_lt hl hp
    have hd16 : d ≤ 6 := HR.out.deep
    have IH1 := Lib.hid (fun W => HJ1.out l rfl (Fl.fl l) (Fl.fl (2 * p)) W (is_spot l (2 * p) (by omega) (Nat.lt_of_lt_of_le p1 (Nat.pow_le_pow_right (by decide) (show d - l ≤ 16 - l by omega)))))
    have IH2 := Lib.hid (fun W => HJ2.out l rfl (Fl.fl l) (Fl.fl (2 * p + 1)) W (is_spot l (2 * p + 1) (by omega) (Nat.lt_of_lt_of_le p2 (Nat.pow_le_pow_right (by decide) (show d - l ≤ 16 - l by omega)))))
    obtain ⟨nn, hnn⟩ : ∃ nn, nd ns i = nn := ⟨_, rfl⟩
    rw [hnn] at HI2 HPRE
    have HIwd4 : Hid (PrI d A n c w (.slice C m cc) m (nodeB nn) w2.drew) := Lib.hid HI2.out.drew
    have HSwd4 := Lib.hid HIwd4.out.s
    clear hev HI2 hnn p1 p2 hl hp HJ1 HJ2
    go_wp2_with fail
    try simp only [Act.put]
    refine Wr.region_calm ?_
    refine wp_region_any (by kernel_rfl) ?_
    change wpAny _ _ _ _ _ _ _ (World.drew w2)
    generalize World.drew w2 = wd4 at *
    refine wpAny_of_held (S := fun W => PrS d A n c w W) _ _ _ _ ?_
    refine wpAnyH_take (i := 0) (v := ?ve1) rfl (by kernel_rfl) (by kernel_rfl) (by kernel_rfl) (fun _ _ _ h => h) (Or.inl ⟨by rfl, ?ye1⟩) HSwd4.out ?re1
    case ye1 => (intro w' hSw; clear hSw; go_simp; try with_reducible rfl)
    simp only [List.getElem_toArray, List.getElem_cons_succ, List.getElem_cons_zero, Act.put, List.setIfInBounds_toArray, List.set_cons_zero, List.set_cons_succ]
    refine wpAnyH_take (i := 1) (v := ?ve2) rfl (by kernel_rfl) (by kernel_rfl) (by kernel_rfl) (fun _ _ _ h => h) (Or.inl ⟨by rfl, ?ye2⟩) HSwd4.out ?re2
    case ye2 => (intro w' hSw; obtain ⟨t0, t1⟩ := hSw.tr.cs; clear hSw; go_simp; try with_reducible rfl)
    simp only [List.getElem_toArray, List.getElem_cons_succ, List.getElem_cons_zero, Act.put, List.setIfInBounds_toArray, List.set_cons_zero, List.set_cons_succ]
    refine wpAnyH_take (i := 2) (v := ?ve3) rfl (by kernel_rfl) (by kernel_rfl) (by kernel_rfl) (fun _ _ _ h => h) (Or.inl ⟨by rfl, ?ye3⟩) HSwd4.out ?re3
    case ye3 => (intro w' hSw; clear hSw; go_simp; try with_reducible rfl)
    simp only [List.getElem_toArray, List.getElem_cons_succ, List.getElem_cons_zero, Act.put, List.setIfInBounds_toArray, List.set_cons_zero, List.set_cons_succ]
    refine wpAnyH_ready (rs := [3]) (by kernel_rfl) (by simp) ?_
    refine AllReadyH.cons rfl (fun K' hK => ?_) AllReadyH.nil
    simp only [List.getElem_toArray, List.getElem_cons_succ, List.getElem_cons_zero]
    go_simp
    refine (Sp.rdown_c HD1.out _).mono ?_
    rintro e' d1 ⟨rfl, hb⟩
    have HId1 := Lib.hid (HIwd4.out.below hb); have HSd1 := Lib.hid HId1.out.s
    clear hb
    refine hK.out _ _ HSd1.out (fun _ => ?_)
    clear hK
    try simp only [List.getElem_toArray, List.getElem_cons_succ, List.getElem_cons_zero, Act.put, List.setIfInBounds_toArray, List.set_cons_zero, List.set_cons_succ]
    refine wpAnyH_ready (rs := [4]) (by kernel_rfl) (by simp) ?_
    refine AllReadyH.cons rfl (fun K' hK => ?_) AllReadyH.nil
    simp only [List.getElem_toArray, List.getElem_cons_succ, List.getElem_cons_zero]
    go_simp
    refine (IH1.out _ (HN.out.below HId1.out.s.bl)).mono ?_
    rintro e' u1 ⟨X1, m1, x1, rfl, hX, hb⟩
    have HX1 := Lib.hid hX.any; have hm1 : m1 = 32 := hX.len.symm.trans (sumF_len _ _ _); have HIu1 := Lib.hid (HId1.out.below hb); have HSu1 := Lib.hid HIu1.out.s
    subst hm1
    clear hb hX
    refine hK.out _ _ HSu1.out (fun _ => ?_)
    clear hK
    try simp only [List.getElem_toArray, List.getElem_cons_succ, List.getElem_cons_zero, Act.put, List.setIfInBounds_toArray, List.set_cons_zero, List.set_cons_succ]
    refine wpAnyH_ready (rs := [5]) (by kernel_rfl) (by simp) ?_
    refine AllReadyH.cons rfl (fun K' hK => ?_) AllReadyH.nil
    simp only [List.getElem_toArray, List.getElem_cons_succ, List.getElem_cons_zero]
    rw [if_pos (by rfl)]
    refine Wr.wp_append_txt (.tmp 18) (.tmp 22) rfl (w.heap.size + 1) (m) 32 x1 _ (nodeB nn) (sumF ns l (2 * p)) X1 Any rfl rfl HIu1.out.own HX1.out (by omega) (by have := HIu1.out.s.tr.lt; omega) ?_
    intro v' v1 hown hgrow hat
    obtain ⟨C1, z1, rfl⟩ := own_sliceG hown
    have HIv1 := Lib.hid (HIu1.out.grown hgrow hown hat); have HSv1 := Lib.hid HIv1.out.s
    clear hown hgrow hat
    refine hK.out _ _ HSv1.out (fun _ => ?_)
    clear hK
    try simp only [List.getElem_toArray, List.getElem_cons_succ, List.getElem_cons_zero, Act.put, List.setIfInBounds_toArray, List.set_cons_zero, List.set_cons_succ]
    refine wpAnyH_take (i := 6) (v := ?ve4) rfl (by kernel_rfl) (by kernel_rfl) (by kernel_rfl) (fun _ _ _ h => h) (Or.inl ⟨by rfl, ?ye4⟩) HSv1.out ?re4
    case ye4 => (intro w' hSw; clear hSw; go_simp; try with_reducible rfl)
    simp only [List.getElem_toArray, List.getElem_cons_succ, List.getElem_cons_zero, Act.put, List.setIfInBounds_toArray, List.set_cons_zero, List.set_cons_succ]
    refine wpAnyH_done (by kernel_rfl) ?_ _
    change Exit.then _ _ Exit.normal _ _
    have HIwd5 : Hid (PrI d A n c w (.slice C1 (m + 32) z1) (m + 32) (nodeB nn ++ sumF ns l (2 * p)) v1.drew) := Lib.hid HIv1.out.drew
    have HSwd5 := Lib.hid HIwd5.out.s
    clear HIwd4 HSwd4 HId1 HSd1 HIu1 HSu1 HIv1 HSv1 HX1
    go_wp2_with fail
    try simp only [Act.put]
    refine Wr.region_calm ?_
    refine wp_region_any (by kernel_rfl) ?_
    change wpAny _ _ _ _ _ _ _ (World.drew v1)
    generalize World.drew v1 = wd5 at *
    refine wpAny_of_held (S := fun W => PrS d A n c w W) _ _ _ _ ?_
    refine wpAnyH_take (i := 0) (v := ?ve5) rfl (by kernel_rfl) (by kernel_rfl) (by kernel_rfl) (fun _ _ _ h => h) (Or.inl ⟨by rfl, ?ye5⟩) HSwd5.out ?re5
    case ye5 => (intro w' hSw; clear hSw; go_simp; try with_reducible rfl)
    simp only [List.getElem_toArray, List.getElem_cons_succ, List.getElem_cons_zero, Act.put, List.setIfInBounds_toArray, List.set_cons_zero, List.set_cons_succ]
    refine wpAnyH_take (i := 1) (v := ?ve6) rfl (by kernel_rfl) (by kernel_rfl) (by kernel_rfl) (fun _ _ _ h => h) (Or.inl ⟨by rfl, ?ye6⟩) HSwd5.out ?re6
    case ye6 => (intro w' hSw; obtain ⟨t0, t1⟩ := hSw.tr.cs; clear hSw; go_simp; try with_reducible rfl)
    simp only [List.getElem_toArray, List.getElem_cons_succ, List.getElem_cons_zero, Act.put, List.setIfInBounds_toArray, List.set_cons_zero, List.set_cons_succ]
    refine wpAnyH_take (i := 2) (v := ?ve7) rfl (by kernel_rfl) (by kernel_rfl) (by kernel_rfl) (fun _ _ _ h => h) (Or.inl ⟨by rfl, ?ye7⟩) HSwd5.out ?re7
    case ye7 => (intro w' hSw; clear hSw; go_simp; try with_reducible rfl)
    simp only [List.getElem_toArray, List.getElem_cons_succ, List.getElem_cons_zero, Act.put, List.setIfInBounds_toArray, List.set_cons_zero, List.set_cons_succ]
    refine wpAnyH_ready (rs := [3]) (by kernel_rfl) (by simp) ?_
    refine AllReadyH.cons rfl (fun K' hK => ?_) AllReadyH.nil
    simp only [List.getElem_toArray, List.getElem_cons_succ, List.getElem_cons_zero]
    go_simp
    refine (Sp.rdown_c HD2.out _).mono ?_
    rintro e' d2 ⟨rfl, hb⟩
    have HId2 := Lib.hid (HIwd5.out.below hb); have HSd2 := Lib.hid HId2.out.s
    clear hb
    refine hK.out _ _ HSd2.out (fun _ => ?_)
    clear hK
    try simp only [List.getElem_toArray, List.getElem_cons_succ, List.getElem_cons_zero, Act.put, List.setIfInBounds_toArray, List.set_cons_zero, List.set_cons_succ]
    refine wpAnyH_ready (rs := [4]) (by kernel_rfl) (by simp) ?_
    refine AllReadyH.cons rfl (fun K' hK => ?_) AllReadyH.nil
    simp only [List.getElem_toArray, List.getElem_cons_succ, List.getElem_cons_zero]
    go_simp
    refine (IH2.out _ (HN.out.below HId2.out.s.bl)).mono ?_
    rintro e' u2 ⟨X2, m2, x2, rfl, hX, hb⟩
    have HX2 := Lib.hid hX.any; have hm2 : m2 = 32 := hX.len.symm.trans (sumF_len _ _ _); have HIu2 := Lib.hid (HId2.out.below hb); have HSu2 := Lib.hid HIu2.out.s
    subst hm2
    clear hb hX
    refine hK.out _ _ HSu2.out (fun _ => ?_)
    clear hK
    try simp only [List.getElem_toArray, List.getElem_cons_succ, List.getElem_cons_zero, Act.put, List.setIfInBounds_toArray, List.set_cons_zero, List.set_cons_succ]
    refine wpAnyH_ready (rs := [5]) (by kernel_rfl) (by simp) ?_
    refine AllReadyH.cons rfl (fun K' hK => ?_) AllReadyH.nil
    simp only [List.getElem_toArray, List.getElem_cons_succ, List.getElem_cons_zero]
    rw [if_pos (by rfl)]
    refine Wr.wp_append_txt (.tmp 24) (.tmp 28) rfl (w.heap.size + 1) (m + 32) 32 x2 _ (nodeB nn ++ sumF ns l (2 * p)) (sumF ns l (2 * p + 1)) X2 Any rfl rfl HIu2.out.own HX2.out (by omega) (by have := HIu2.out.s.tr.lt; omega) ?_
    intro v' v2 hown hgrow hat
    obtain ⟨C2, z2, rfl⟩ := own_sliceG hown
    have HIv2 := Lib.hid (HIu2.out.grown hgrow hown hat); have HSv2 := Lib.hid HIv2.out.s
    clear hown hgrow hat
    refine hK.out _ _ HSv2.out (fun _ => ?_)
    clear hK
    try simp only [List.getElem_toArray, List.getElem_cons_succ, List.getElem_cons_zero, Act.put, List.setIfInBounds_toArray, List.set_cons_zero, List.set_cons_succ]
    refine wpAnyH_take (i := 6) (v := ?ve8) rfl (by kernel_rfl) (by kernel_rfl) (by kernel_rfl) (fun _ _ _ h => h) (Or.inl ⟨by rfl, ?ye8⟩) HSv2.out ?re8
    case ye8 => (intro w' hSw; clear hSw; go_simp; try with_reducible rfl)
    simp only [List.getElem_toArray, List.getElem_cons_succ, List.getElem_cons_zero, Act.put, List.setIfInBounds_toArray, List.set_cons_zero, List.set_cons_succ]
    refine wpAnyH_done (by kernel_rfl) ?_ _
    change Exit.then _ _ Exit.normal _ _
    have CS := Lib.hid (rsum_own (bs := pre ns (l + 1) p) (by rw [HPRE.out, show rests ns (l + 1) p = sumF ns l (2 * p) ++ sumF ns l (2 * p + 1) from rfl, ← List.append_assoc]; exact HIv2.out.own) HPX.out (by omega))
    go_wp2_with (first | (go_at_call 85; refine CS.out.mono ?_; rintro e' w9 ⟨X, mx, cx, rfl, hX, hb⟩; have HX9 := Lib.hid hX; have HB9 := Lib.hid hb; clear hX hb) | go_in)
    go_ret
    exact ⟨X, mx, cx, rfl, by rw [HSP.out]; exact HX9.out.mono (fun b h => ⟨Nat.le_trans HIv2.out.s.bl.size h.1, h.2⟩), HIv2.out.s.bl.trans (HB9.out.mono HIv2.out.s.bl.size)⟩
theorem refSum_is (d : Nat) (A : Option Addr) (n c : Nat) (ns : List Nd) (hR : Right ns d) : ∀ l p, l ≤ d → p < 2 ^ (d - l) → SumC d A n c ns l p
  | 0, p, hl, hp => fun x y w hS hN => refSum_step d A n c ns x y 0 p w hN hR hl hp hS (fun _ h => by omega) (fun _ h => by omega)
  | l + 1, p, hl, hp => fun x y w hS hN => by
    obtain ⟨p1, p2⟩ := half_lt hl hp
    refine refSum_step d A n c ns x y (l + 1) p w hN hR hl hp hS (fun l' h => ?_) (fun l' h => ?_)
    · obtain rfl : l = l' := by omega
      exact refSum_is d A n c ns hR l (2 * p) (by omega) p1
    · obtain rfl : l = l' := by omega
      exact refSum_is d A n c ns hR l (2 * p + 1) (by omega) p2

end Go.Proofs.YtophnoaneoeiaaaGreatDoor.Rt
