/- RatchetWindow: the law's walk. Written by tools/mk_rawindow.py. -/
import Derived.Test.YtkplkfokpniflaaDoorRaWinP
import Derived.Test.YtkplkfokpniflaaDoorRaOrder
namespace Go.Proofs.YtkplkfokpniflaaDoor.Ra
set_option linter.all false
open Go.RowKit
open Wr (Txt Any New bcells gt)

set_option maxHeartbeats 8000000 in
set_option maxRecDepth 100000 in
theorem ratchetWindow_walk (A : Option Addr) (b : List Nat) (n c : Nat) (G : Option Addr) (gs : List Nat) (gn gc : Nat) (w : World) (hT : Tabs w) (hA : Txt Any w A n c b) (hG : Txt Any w G gn gc gs) :
    Calls Tryd.prog 6 #[.slice A n c, .slice G gn gc] w fun e w' => e = .returned (.bool true) ∧ Below w.heap.size w w' := by
  have HT := Lib.hid hT; have HA := Lib.hid hA; have HG := Lib.hid hG
  clear hT hA hG
  go_enter Tryd.func6, Tryd.ntmps6
  go_wp2_with fail
  refine (head_any w HT.out).mono ?_
  rintro e' w1 ⟨rfl, hb⟩
  have B1 := Lib.hid hb
  clear hb
  go_wp2_with fail
  refine (new_is A b n c w1 (HA.out.below B1.out)).mono ?_
  rintro e' w4 ⟨⟨qg, QA, qn, qc, QK, qnk, qck⟩, rfl, hI, hb⟩
  dsimp only [RkQ.cs]
  have ba := (Below.refl w4.heap.size w4).alloc (Nat.le_refl _) (.cells (RkQ.cs ⟨qg, QA, qn, qc, QK, qnk, qck⟩) 25)
  have hk := RkB.new ⟨qg, QA, qn, qc, QK, qnk, qck⟩ w4
  obtain ⟨w5, hww5⟩ : ∃ W, w4.alloc (.cells (RkQ.cs ⟨qg, QA, qn, qc, QK, qnk, qck⟩) 25) = W := ⟨_, rfl⟩
  obtain ⟨gR, hgR⟩ : ∃ g, w4.heap.size = g := ⟨_, rfl⟩
  rw [hww5] at ba hk
  rw [hgR] at hk
  dsimp only [RkQ.cs] at hww5
  have HGR : Hid (w4.heap.size = gR ∧ w1.heap.size ≤ w4.heap.size) := Lib.hid ⟨hgR, hb.size⟩
  have HI5 : Hid (RkIs (fun y => y ≠ gR) w5 ⟨qg, QA, qn, qc, QK, qnk, qck⟩ (newR b)) := Lib.hid ((hI.mono fun y hy h => (by omega)).below ba)
  have HK5 : Hid (RkB ⟨qg, QA, qn, qc, QK, qnk, qck⟩ w5 gR) := Lib.hid hk
  have HB5 : Hid (Below w1.heap.size w1 w5) := Lib.hid (hb.trans (ba.mono hb.size))
  have HBw : Hid (Below w.heap.size w w5) := Lib.hid (B1.out.trans (HB5.out.mono B1.out.size))
  clear hI hb ba hk
  by_cases h32 : n = 32
  case neg =>
    go_wp2
    go_ret
    exact ⟨rfl, HBw.out⟩
  subst h32
  by_cases h40 : 30 < gn
  case pos =>
    go_wp2
    go_ret
    exact ⟨rfl, HBw.out⟩
  have HBL : Hid (b.length = 32) := Lib.hid HA.out.len
  have HL : Hid (w1.heap.size ≤ gR) := Lib.hid (by have := HGR.out; omega)
  go_wp2_with fail
  try rw [hww5]
  try rw [hgR]
  clear hww5 hgR
  go_loopw [7] (fun v W => ∃ (i : Nat) (r : Rk) (q : RkQ), i ≤ gn ∧ v = .int .i64 i ∧ Hid (Right r ∧ r.gen ≤ 12 * i) ∧ Hid (RkB q W gR) ∧ Hid (RkIs (fun y => y ≠ gR) W q r) ∧ Hid (Below w1.heap.size w1 W)) (fun v _ => gn - (intOf v).toNat)
  case atStart => exact ⟨0, _, _, by omega, rfl, Lib.hid ⟨new_right HBL.out, by rw [show newR b = ⟨0, b, []⟩ from if_pos HBL.out]; exact Int.le_refl _⟩, HK5, HI5, HB5⟩
  case round =>
    obtain ⟨i, r, ⟨g0, QA, qn, qc, QK, qnk, qck⟩, hi, rfl, HUS, HK, HI, HB⟩ := hrel
    by_cases hi8 : i < gn
    case neg =>
      go_wp2
      go_ret
      exact ⟨rfl, B1.out.trans (HB.out.mono B1.out.size)⟩
    have HBr : Hid (Below w.heap.size w wr) := Lib.hid (B1.out.trans (HB.out.mono B1.out.size))
    obtain ⟨ad, had⟩ := txt_some HG.out (by omega)
    subst had
    have c4 := txt_cell (HG.out.below HBr.out) hi8
    have hx := HG.out.lt i
    obtain ⟨x', hxe⟩ : ∃ x, gt gs i = x := ⟨_, rfl⟩
    rw [hxe] at hx c4
    obtain ⟨N, hN⟩ : ∃ N : Nat, x' % 12 = N := ⟨_, rfl⟩
    have yN : (x' : Int) % 12 = (N : Int) := by omega
    have hN12 : N < 12 := by omega
    have HQG : Hid (g0 = r.gen) := Lib.hid HI.out.g
    have z1 : 0 ≤ g0 := by rw [HQG.out]; exact HUS.out.1.lo
    have z2 : g0 ≤ 400 := by rw [HQG.out]; have := HUS.out.2; omega
    obtain ⟨gN, hgN⟩ : ∃ x : Int, g0 + (N : Int) = x := ⟨_, rfl⟩
    have CT := take_is ⟨g0, QA, qn, qc, QK, qnk, qck⟩ r gN wr (HT.out.at HBr.out) HI.out.any (by omega)
    obtain ⟨s0, s1, s2⟩ := HK.out.cs
    dsimp only at s0 s1 s2
    by_cases h8 : 8 < N
    · have yN8 : ¬ (N : Int) ≤ 8 := by omega
      have e : takeR r gN = (zR, [], 172) := by rw [← hgN, HQG.out]; exact win_far HUS.out.1 h8
      rw [e] at CT
      dsimp only [RkQ.cs] at CT
      have CTH := Lib.hid CT
      clear CT e hxe
      go_wp2_with fail
      refine CTH.out.mono ?_
      rintro e' w12 ⟨⟨g1, QA1, qn1, qc1, QK1, qnk1, qck1⟩, A6, n6, c6, rfl, hI, hX, hXI, hb⟩
      dsimp only [RkQ.cs]
      have ba := (Below.refl w12.heap.size w12).alloc (Nat.le_refl _) (.cells (RkQ.cs ⟨g1, QA1, qn1, qc1, QK1, qnk1, qck1⟩) 25)
      have hk := RkB.new ⟨g1, QA1, qn1, qc1, QK1, qnk1, qck1⟩ w12
      obtain ⟨w13, hww13⟩ : ∃ W, w12.alloc (.cells (RkQ.cs ⟨g1, QA1, qn1, qc1, QK1, qnk1, qck1⟩) 25) = W := ⟨_, rfl⟩
      obtain ⟨gS, hgS⟩ : ∃ g, w12.heap.size = g := ⟨_, rfl⟩
      rw [hww13] at ba hk
      rw [hgS] at hk
      dsimp only [RkQ.cs] at hww13
      have HBB : Hid (Below wr.heap.size wr w13) := Lib.hid (hb.trans (ba.mono hb.size))
      clear hI hX hXI hb ba hk s0 s1 s2 c4
      go_wp2
      go_roundw
      case rel => exact ⟨i + 1, r, _, by omega, by go_num, Lib.hid ⟨HUS.out.1, by have := HUS.out.2; omega⟩, Lib.hid (HK.out.below HBB.out HK.out.lt), Lib.hid (HI.out.below HBB.out), Lib.hid (HB.out.trans (HBB.out.mono HB.out.size))⟩
      case measure => simp [intOf]; omega
    have yN8 : (N : Int) ≤ 8 := by omega
    obtain ⟨rn, kb, e, hr', hgen, hlen, hlast⟩ := win_on HUS.out.1 (by have := HUS.out.2; omega) (show N ≤ 8 by omega)
    rw [← HQG.out, hgN] at e
    rw [e] at CT
    dsimp only [RkQ.cs] at CT
    have CTH := Lib.hid CT
    clear CT e hxe
    go_wp2_with fail
    refine CTH.out.mono ?_
    rintro e' w12 ⟨⟨g1, QA1, qn1, qc1, QK1, qnk1, qck1⟩, A6, n6, c6, rfl, hI, hX, hXI, hb⟩
    dsimp only [RkQ.cs]
    have ba := (Below.refl w12.heap.size w12).alloc (Nat.le_refl _) (.cells (RkQ.cs ⟨g1, QA1, qn1, qc1, QK1, qnk1, qck1⟩) 25)
    have hk := RkB.new ⟨g1, QA1, qn1, qc1, QK1, qnk1, qck1⟩ w12
    obtain ⟨w13, hww13⟩ : ∃ W, w12.alloc (.cells (RkQ.cs ⟨g1, QA1, qn1, qc1, QK1, qnk1, qck1⟩) 25) = W := ⟨_, rfl⟩
    obtain ⟨gS, hgS⟩ : ∃ g, w12.heap.size = g := ⟨_, rfl⟩
    rw [hww13] at ba hk
    rw [hgS] at hk
    dsimp only [RkQ.cs] at hww13
    have HBB : Hid (Below wr.heap.size wr w13) := Lib.hid (hb.trans (ba.mono hb.size))
    have HI13 : Hid (RkIs (fun y => wr.heap.size ≤ y) w13 ⟨g1, QA1, qn1, qc1, QK1, qnk1, qck1⟩ rn) := Lib.hid (hI.below ba)
    have HK13 : Hid (RkB ⟨g1, QA1, qn1, qc1, QK1, qnk1, qck1⟩ w13 gS) := Lib.hid hk
    have HKR13 : Hid (RkB ⟨g0, QA, qn, qc, QK, qnk, qck⟩ w13 gR) := Lib.hid (HK.out.below HBB.out HK.out.lt)
    obtain ⟨t0, t1, t2⟩ := HK13.out.cs
    obtain ⟨r0, r1, r2⟩ := HKR13.out.cs
    dsimp only at t0 t1 t2 r0 r1 r2
    have hg1 : g1 = rn.gen := HI13.out.g
    have hk0 := HI.out.kept.len; have hk1 := HI13.out.kept.len
    dsimp only at hk0 hk1
    have hm0 := HUS.out.1.many; have hm1 := hr'.many
    rw [← HQG.out] at hgen
    rw [hk0] at hlen hm0; rw [hk1] at hlen hm1
    have z3 : (g1 != gN + 1) = false := by rw [bne_eq_false_iff_eq]; omega
    have HG1 : Hid (rn.gen = g1) := Lib.hid hg1.symm
    have HZ4 : Hid (qnk1 = min (qnk + N) 16) := Lib.hid hlen
    have HLA : Hid (0 < N → 0 < qnk1 ∧ (kd rn.kept (qnk1 - 1)).g = gN - 1) := Lib.hid fun h => by have := hlast h; rw [hk1] at this; exact ⟨this.1, by rw [this.2, ← HQG.out]; omega⟩
    clear hg1 hlen hgen hlast hk0 hk1
    clear hI hX hXI hb ba hk s0 s1 s2 c4
    have hz : ((16 : Int) < (qnk : Int) + (N : Int) ∧ ((qnk1 : Int) != 16) = false) ∨ (¬ (16 : Int) < (qnk : Int) + (N : Int) ∧ ((qnk1 : Int) != (qnk : Int) + (N : Int)) = false) := by
      have := HZ4.out
      by_cases h : (16 : Int) < (qnk : Int) + (N : Int)
      · exact .inl ⟨h, by rw [bne_eq_false_iff_eq]; omega⟩
      · exact .inr ⟨h, by rw [bne_eq_false_iff_eq]; omega⟩
    have HR' := Lib.hid hr'
    have HGN : Hid (rn.gen ≤ 12 * ((i + 1 : Nat) : Int)) := Lib.hid (by rw [HG1.out]; have h1 := HUS.out.2; rw [← HQG.out] at h1; have h2 : g1 = gN + 1 := (by simpa using z3); omega)
    have HLG : Hid (gR < wr.heap.size ∧ wr.heap.size ≤ w13.heap.size) := Lib.hid ⟨HK.out.lt, HBB.out.size⟩
    have HB13 : Hid (Below w1.heap.size w1 w13.drew) := Lib.hid (HB.out.trans (HBB.out.mono HB.out.size)).drew
    clear hr' hm1
    by_cases h0 : 0 < N
    case neg =>
      have HZ3 : Hid (Unit → decide ((N : Int) > 0) = false) := Lib.hid fun _ => decide_eq_false (by omega)
      have HZ7 : Hid (Unit → decide (0 < N) = false) := Lib.hid fun _ => decide_eq_false (by omega)
      have HZ8 : Hid (Unit → decide (0 < (N : Int)) = false) := Lib.hid fun _ => decide_eq_false (by omega)
      clear h0
      rcases hz with ⟨y5, z4⟩ | ⟨y5, z4⟩
      · go_wp2
        have HKd : Hid (RkB ⟨g1, QA1, qn1, qc1, QK1, qnk1, qck1⟩ w13.drew gS) := HK13
        have HKRd : Hid (RkB ⟨g0, QA, qn, qc, QK, qnk, qck⟩ w13.drew gR) := HKR13
        have HId : Hid (RkIs (fun y => wr.heap.size ≤ y) w13.drew ⟨g1, QA1, qn1, qc1, QK1, qnk1, qck1⟩ rn) := Lib.hid HI13.out.drew
        have HLd : Hid (wr.heap.size ≤ w13.drew.heap.size) := Lib.hid HLG.out.2
        clear hww13 hgS t0 t1 t2 r0 r1 r2 z3 y5 z4 HK13 HKR13 HI13 HBB
        try simp only [Act.put]
        refine Wr.region_calm ?_
        refine wp_region_any (by kernel_rfl) ?_
        change wpAny _ _ _ _ _ _ _ (World.drew w13)
        generalize World.drew w13 = wd at *
        have HSwd : Hid (Below wd.heap.size wd wd) := Lib.hid (Below.refl _ _)
        refine wpAny_of_held (S := fun W => Below wd.heap.size wd W) _ _ _ _ ?_
        refine wpAnyH_take (i := 0) (v := ?ve1) rfl (by kernel_rfl) (by kernel_rfl) (by kernel_rfl) (fun _ _ _ h => h) (Or.inl ⟨by rfl, ?ye1⟩) HSwd.out ?re1
        case ye1 => (intro w' hSw; clear hSw; go_simp; try with_reducible rfl)
        simp only [List.getElem_toArray, List.getElem_cons_succ, List.getElem_cons_zero, Act.put, List.setIfInBounds_toArray, List.set_cons_zero, List.set_cons_succ]
        refine wpAnyH_take (i := 1) (v := ?ve2) rfl (by kernel_rfl) (by kernel_rfl) (by kernel_rfl) (fun _ _ _ h => h) (Or.inl ⟨by rfl, ?ye2⟩) HSwd.out ?re2
        case ye2 => (intro w' hSw; have hq_wd : Below wd.heap.size wd w' := hSw; have hq := hq_wd; have z := HZ3.out (); have z2 := HZ7.out (); have z3 := HZ8.out (); clear hSw; try clear hq hq_wd; go_simp; try with_reducible rfl)
        simp only [List.getElem_toArray, List.getElem_cons_succ, List.getElem_cons_zero, Act.put, List.setIfInBounds_toArray, List.set_cons_zero, List.set_cons_succ]
        refine wpAnyH_take (i := 2) (v := ?ve3) rfl (by kernel_rfl) (by kernel_rfl) (by kernel_rfl) (fun _ _ _ h => h) (Or.inl ⟨by rfl, ?ye3⟩) HSwd.out ?re3
        case ye3 => (intro w' hSw; clear hSw; go_simp; try with_reducible rfl)
        simp only [List.getElem_toArray, List.getElem_cons_succ, List.getElem_cons_zero, Act.put, List.setIfInBounds_toArray, List.set_cons_zero, List.set_cons_succ]
        refine wpAnyH_take (i := 3) (v := undef) rfl (by kernel_rfl) (by kernel_rfl) (by kernel_rfl) (fun _ _ _ h => h) (Or.inr ⟨by rfl, rfl⟩) HSwd.out ?re4
        simp only [List.getElem_toArray, List.getElem_cons_succ, List.getElem_cons_zero, Act.put, List.setIfInBounds_toArray, List.set_cons_zero, List.set_cons_succ]
        refine wpAnyH_take (i := 4) (v := undef) rfl (by kernel_rfl) (by kernel_rfl) (by kernel_rfl) (fun _ _ _ h => h) (Or.inr ⟨by rfl, rfl⟩) HSwd.out ?re5
        simp only [List.getElem_toArray, List.getElem_cons_succ, List.getElem_cons_zero, Act.put, List.setIfInBounds_toArray, List.set_cons_zero, List.set_cons_succ]
        refine wpAnyH_take (i := 5) (v := undef) rfl (by kernel_rfl) (by kernel_rfl) (by kernel_rfl) (fun _ _ _ h => h) (Or.inr ⟨by rfl, rfl⟩) HSwd.out ?re6
        simp only [List.getElem_toArray, List.getElem_cons_succ, List.getElem_cons_zero, Act.put, List.setIfInBounds_toArray, List.set_cons_zero, List.set_cons_succ]
        refine wpAnyH_take (i := 6) (v := undef) rfl (by kernel_rfl) (by kernel_rfl) (by kernel_rfl) (fun _ _ _ h => h) (Or.inr ⟨by rfl, rfl⟩) HSwd.out ?re7
        simp only [List.getElem_toArray, List.getElem_cons_succ, List.getElem_cons_zero, Act.put, List.setIfInBounds_toArray, List.set_cons_zero, List.set_cons_succ]
        refine wpAnyH_take (i := 7) (v := undef) rfl (by kernel_rfl) (by kernel_rfl) (by kernel_rfl) (fun _ _ _ h => h) (Or.inr ⟨by rfl, rfl⟩) HSwd.out ?re8
        simp only [List.getElem_toArray, List.getElem_cons_succ, List.getElem_cons_zero, Act.put, List.setIfInBounds_toArray, List.set_cons_zero, List.set_cons_succ]
        refine wpAnyH_take (i := 8) (v := undef) rfl (by kernel_rfl) (by kernel_rfl) (by kernel_rfl) (fun _ _ _ h => h) (Or.inr ⟨by rfl, rfl⟩) HSwd.out ?re9
        simp only [List.getElem_toArray, List.getElem_cons_succ, List.getElem_cons_zero, Act.put, List.setIfInBounds_toArray, List.set_cons_zero, List.set_cons_succ]
        refine wpAnyH_take (i := 9) (v := undef) rfl (by kernel_rfl) (by kernel_rfl) (by kernel_rfl) (fun _ _ _ h => h) (Or.inr ⟨by rfl, rfl⟩) HSwd.out ?re10
        simp only [List.getElem_toArray, List.getElem_cons_succ, List.getElem_cons_zero, Act.put, List.setIfInBounds_toArray, List.set_cons_zero, List.set_cons_succ]
        refine wpAnyH_take (i := 10) (v := undef) rfl (by kernel_rfl) (by kernel_rfl) (by kernel_rfl) (fun _ _ _ h => h) (Or.inr ⟨by rfl, rfl⟩) HSwd.out ?re11
        simp only [List.getElem_toArray, List.getElem_cons_succ, List.getElem_cons_zero, Act.put, List.setIfInBounds_toArray, List.set_cons_zero, List.set_cons_succ]
        refine wpAnyH_take (i := 11) (v := undef) rfl (by kernel_rfl) (by kernel_rfl) (by kernel_rfl) (fun _ _ _ h => h) (Or.inr ⟨by rfl, rfl⟩) HSwd.out ?re12
        simp only [List.getElem_toArray, List.getElem_cons_succ, List.getElem_cons_zero, Act.put, List.setIfInBounds_toArray, List.set_cons_zero, List.set_cons_succ]
        refine wpAnyH_take (i := 12) (v := undef) rfl (by kernel_rfl) (by kernel_rfl) (by kernel_rfl) (fun _ _ _ h => h) (Or.inr ⟨by rfl, rfl⟩) HSwd.out ?re13
        simp only [List.getElem_toArray, List.getElem_cons_succ, List.getElem_cons_zero, Act.put, List.setIfInBounds_toArray, List.set_cons_zero, List.set_cons_succ]
        refine wpAnyH_take (i := 13) (v := undef) rfl (by kernel_rfl) (by kernel_rfl) (by kernel_rfl) (fun _ _ _ h => h) (Or.inr ⟨by rfl, rfl⟩) HSwd.out ?re14
        simp only [List.getElem_toArray, List.getElem_cons_succ, List.getElem_cons_zero, Act.put, List.setIfInBounds_toArray, List.set_cons_zero, List.set_cons_succ]
        refine wpAnyH_take (i := 14) (v := undef) rfl (by kernel_rfl) (by kernel_rfl) (by kernel_rfl) (fun _ _ _ h => h) (Or.inr ⟨by rfl, rfl⟩) HSwd.out ?re15
        simp only [List.getElem_toArray, List.getElem_cons_succ, List.getElem_cons_zero, Act.put, List.setIfInBounds_toArray, List.set_cons_zero, List.set_cons_succ]
        refine wpAnyH_take (i := 15) (v := undef) rfl (by kernel_rfl) (by kernel_rfl) (by kernel_rfl) (fun _ _ _ h => h) (Or.inr ⟨by rfl, rfl⟩) HSwd.out ?re16
        simp only [List.getElem_toArray, List.getElem_cons_succ, List.getElem_cons_zero, Act.put, List.setIfInBounds_toArray, List.set_cons_zero, List.set_cons_succ]
        refine wpAnyH_take (i := 16) (v := undef) rfl (by kernel_rfl) (by kernel_rfl) (by kernel_rfl) (fun _ _ _ h => h) (Or.inr ⟨by rfl, rfl⟩) HSwd.out ?re17
        simp only [List.getElem_toArray, List.getElem_cons_succ, List.getElem_cons_zero, Act.put, List.setIfInBounds_toArray, List.set_cons_zero, List.set_cons_succ]
        refine wpAnyH_take (i := 17) (v := undef) rfl (by kernel_rfl) (by kernel_rfl) (by kernel_rfl) (fun _ _ _ h => h) (Or.inr ⟨by rfl, rfl⟩) HSwd.out ?re18
        simp only [List.getElem_toArray, List.getElem_cons_succ, List.getElem_cons_zero, Act.put, List.setIfInBounds_toArray, List.set_cons_zero, List.set_cons_succ]
        refine wpAnyH_take (i := 18) (v := ?ve19) rfl (by kernel_rfl) (by kernel_rfl) (by kernel_rfl) (fun _ _ _ h => h) (Or.inl ⟨by rfl, ?ye19⟩) HSwd.out ?re19
        case ye19 => (intro w' hSw; clear hSw; go_simp; try with_reducible rfl)
        simp only [List.getElem_toArray, List.getElem_cons_succ, List.getElem_cons_zero, Act.put, List.setIfInBounds_toArray, List.set_cons_zero, List.set_cons_succ]
        refine wpAnyH_done (by kernel_rfl) ?_ _
        change Exit.then _ _ Exit.normal _ _
        obtain ⟨t0, t1, t2⟩ := HKd.out.cs
        dsimp only at t0 t1 t2
        go_wp2_with (refine wpList_store_row rfl 25 (.tmp 6) (.tmp 92) rfl gR (RkQ.cs ⟨g1, QA1, qn1, qc1, QK1, qnk1, qck1⟩) rfl rfl 25 (RkQ.cs ⟨g0, QA, qn, qc, QK, qnk, qck⟩) HKRd.out (rk_sized _) rfl (rk_all _) ?_)
        have HQ10 : Hid (RkB ⟨g1, QA1, qn1, qc1, QK1, qnk1, qck1⟩ (wd.setRow gR (RkQ.cs ⟨g1, QA1, qn1, qc1, QK1, qnk1, qck1⟩)) gR) := Lib.hid (setRow_heap wd gR _ _ 25 _ HKRd.out)
        have HI10 : Hid (RkIs (fun y => y ≠ gR) (wd.setRow gR (RkQ.cs ⟨g1, QA1, qn1, qc1, QK1, qnk1, qck1⟩)) ⟨g1, QA1, qn1, qc1, QK1, qnk1, qck1⟩ rn) := Lib.hid ((HId.out.keep (by simp [World.setRow]) fun y hy _ => setRow_other wd _ y _ (by have := HLG.out; omega)).mono fun y _ hy => by have := HLG.out; omega)
        have HB10 : Hid (Below w1.heap.size w1 (wd.setRow gR (RkQ.cs ⟨g1, QA1, qn1, qc1, QK1, qnk1, qck1⟩))) := Lib.hid (below_setRow HB13.out HL.out _)
        generalize wd.setRow gR (RkQ.cs ⟨g1, QA1, qn1, qc1, QK1, qnk1, qck1⟩) = w10 at *
        clear t0 t1 t2
        try simp only [Act.put]
        go_roundw
        case rel => exact ⟨i + 1, rn, _, by omega, by go_num, Lib.hid ⟨HR'.out, HGN.out⟩, HQ10, HI10, HB10⟩
        case measure => simp [intOf]; omega
      · go_wp2
        have HKd : Hid (RkB ⟨g1, QA1, qn1, qc1, QK1, qnk1, qck1⟩ w13.drew gS) := HK13
        have HKRd : Hid (RkB ⟨g0, QA, qn, qc, QK, qnk, qck⟩ w13.drew gR) := HKR13
        have HId : Hid (RkIs (fun y => wr.heap.size ≤ y) w13.drew ⟨g1, QA1, qn1, qc1, QK1, qnk1, qck1⟩ rn) := Lib.hid HI13.out.drew
        have HLd : Hid (wr.heap.size ≤ w13.drew.heap.size) := Lib.hid HLG.out.2
        clear hww13 hgS t0 t1 t2 r0 r1 r2 z3 y5 z4 HK13 HKR13 HI13 HBB
        try simp only [Act.put]
        refine Wr.region_calm ?_
        refine wp_region_any (by kernel_rfl) ?_
        change wpAny _ _ _ _ _ _ _ (World.drew w13)
        generalize World.drew w13 = wd at *
        have HSwd : Hid (Below wd.heap.size wd wd) := Lib.hid (Below.refl _ _)
        refine wpAny_of_held (S := fun W => Below wd.heap.size wd W) _ _ _ _ ?_
        refine wpAnyH_take (i := 0) (v := ?ve20) rfl (by kernel_rfl) (by kernel_rfl) (by kernel_rfl) (fun _ _ _ h => h) (Or.inl ⟨by rfl, ?ye20⟩) HSwd.out ?re20
        case ye20 => (intro w' hSw; clear hSw; go_simp; try with_reducible rfl)
        simp only [List.getElem_toArray, List.getElem_cons_succ, List.getElem_cons_zero, Act.put, List.setIfInBounds_toArray, List.set_cons_zero, List.set_cons_succ]
        refine wpAnyH_take (i := 1) (v := ?ve21) rfl (by kernel_rfl) (by kernel_rfl) (by kernel_rfl) (fun _ _ _ h => h) (Or.inl ⟨by rfl, ?ye21⟩) HSwd.out ?re21
        case ye21 => (intro w' hSw; have hq_wd : Below wd.heap.size wd w' := hSw; have hq := hq_wd; have z := HZ3.out (); have z2 := HZ7.out (); have z3 := HZ8.out (); clear hSw; try clear hq hq_wd; go_simp; try with_reducible rfl)
        simp only [List.getElem_toArray, List.getElem_cons_succ, List.getElem_cons_zero, Act.put, List.setIfInBounds_toArray, List.set_cons_zero, List.set_cons_succ]
        refine wpAnyH_take (i := 2) (v := ?ve22) rfl (by kernel_rfl) (by kernel_rfl) (by kernel_rfl) (fun _ _ _ h => h) (Or.inl ⟨by rfl, ?ye22⟩) HSwd.out ?re22
        case ye22 => (intro w' hSw; clear hSw; go_simp; try with_reducible rfl)
        simp only [List.getElem_toArray, List.getElem_cons_succ, List.getElem_cons_zero, Act.put, List.setIfInBounds_toArray, List.set_cons_zero, List.set_cons_succ]
        refine wpAnyH_take (i := 3) (v := undef) rfl (by kernel_rfl) (by kernel_rfl) (by kernel_rfl) (fun _ _ _ h => h) (Or.inr ⟨by rfl, rfl⟩) HSwd.out ?re23
        simp only [List.getElem_toArray, List.getElem_cons_succ, List.getElem_cons_zero, Act.put, List.setIfInBounds_toArray, List.set_cons_zero, List.set_cons_succ]
        refine wpAnyH_take (i := 4) (v := undef) rfl (by kernel_rfl) (by kernel_rfl) (by kernel_rfl) (fun _ _ _ h => h) (Or.inr ⟨by rfl, rfl⟩) HSwd.out ?re24
        simp only [List.getElem_toArray, List.getElem_cons_succ, List.getElem_cons_zero, Act.put, List.setIfInBounds_toArray, List.set_cons_zero, List.set_cons_succ]
        refine wpAnyH_take (i := 5) (v := undef) rfl (by kernel_rfl) (by kernel_rfl) (by kernel_rfl) (fun _ _ _ h => h) (Or.inr ⟨by rfl, rfl⟩) HSwd.out ?re25
        simp only [List.getElem_toArray, List.getElem_cons_succ, List.getElem_cons_zero, Act.put, List.setIfInBounds_toArray, List.set_cons_zero, List.set_cons_succ]
        refine wpAnyH_take (i := 6) (v := undef) rfl (by kernel_rfl) (by kernel_rfl) (by kernel_rfl) (fun _ _ _ h => h) (Or.inr ⟨by rfl, rfl⟩) HSwd.out ?re26
        simp only [List.getElem_toArray, List.getElem_cons_succ, List.getElem_cons_zero, Act.put, List.setIfInBounds_toArray, List.set_cons_zero, List.set_cons_succ]
        refine wpAnyH_take (i := 7) (v := undef) rfl (by kernel_rfl) (by kernel_rfl) (by kernel_rfl) (fun _ _ _ h => h) (Or.inr ⟨by rfl, rfl⟩) HSwd.out ?re27
        simp only [List.getElem_toArray, List.getElem_cons_succ, List.getElem_cons_zero, Act.put, List.setIfInBounds_toArray, List.set_cons_zero, List.set_cons_succ]
        refine wpAnyH_take (i := 8) (v := undef) rfl (by kernel_rfl) (by kernel_rfl) (by kernel_rfl) (fun _ _ _ h => h) (Or.inr ⟨by rfl, rfl⟩) HSwd.out ?re28
        simp only [List.getElem_toArray, List.getElem_cons_succ, List.getElem_cons_zero, Act.put, List.setIfInBounds_toArray, List.set_cons_zero, List.set_cons_succ]
        refine wpAnyH_take (i := 9) (v := undef) rfl (by kernel_rfl) (by kernel_rfl) (by kernel_rfl) (fun _ _ _ h => h) (Or.inr ⟨by rfl, rfl⟩) HSwd.out ?re29
        simp only [List.getElem_toArray, List.getElem_cons_succ, List.getElem_cons_zero, Act.put, List.setIfInBounds_toArray, List.set_cons_zero, List.set_cons_succ]
        refine wpAnyH_take (i := 10) (v := undef) rfl (by kernel_rfl) (by kernel_rfl) (by kernel_rfl) (fun _ _ _ h => h) (Or.inr ⟨by rfl, rfl⟩) HSwd.out ?re30
        simp only [List.getElem_toArray, List.getElem_cons_succ, List.getElem_cons_zero, Act.put, List.setIfInBounds_toArray, List.set_cons_zero, List.set_cons_succ]
        refine wpAnyH_take (i := 11) (v := undef) rfl (by kernel_rfl) (by kernel_rfl) (by kernel_rfl) (fun _ _ _ h => h) (Or.inr ⟨by rfl, rfl⟩) HSwd.out ?re31
        simp only [List.getElem_toArray, List.getElem_cons_succ, List.getElem_cons_zero, Act.put, List.setIfInBounds_toArray, List.set_cons_zero, List.set_cons_succ]
        refine wpAnyH_take (i := 12) (v := undef) rfl (by kernel_rfl) (by kernel_rfl) (by kernel_rfl) (fun _ _ _ h => h) (Or.inr ⟨by rfl, rfl⟩) HSwd.out ?re32
        simp only [List.getElem_toArray, List.getElem_cons_succ, List.getElem_cons_zero, Act.put, List.setIfInBounds_toArray, List.set_cons_zero, List.set_cons_succ]
        refine wpAnyH_take (i := 13) (v := undef) rfl (by kernel_rfl) (by kernel_rfl) (by kernel_rfl) (fun _ _ _ h => h) (Or.inr ⟨by rfl, rfl⟩) HSwd.out ?re33
        simp only [List.getElem_toArray, List.getElem_cons_succ, List.getElem_cons_zero, Act.put, List.setIfInBounds_toArray, List.set_cons_zero, List.set_cons_succ]
        refine wpAnyH_take (i := 14) (v := undef) rfl (by kernel_rfl) (by kernel_rfl) (by kernel_rfl) (fun _ _ _ h => h) (Or.inr ⟨by rfl, rfl⟩) HSwd.out ?re34
        simp only [List.getElem_toArray, List.getElem_cons_succ, List.getElem_cons_zero, Act.put, List.setIfInBounds_toArray, List.set_cons_zero, List.set_cons_succ]
        refine wpAnyH_take (i := 15) (v := undef) rfl (by kernel_rfl) (by kernel_rfl) (by kernel_rfl) (fun _ _ _ h => h) (Or.inr ⟨by rfl, rfl⟩) HSwd.out ?re35
        simp only [List.getElem_toArray, List.getElem_cons_succ, List.getElem_cons_zero, Act.put, List.setIfInBounds_toArray, List.set_cons_zero, List.set_cons_succ]
        refine wpAnyH_take (i := 16) (v := undef) rfl (by kernel_rfl) (by kernel_rfl) (by kernel_rfl) (fun _ _ _ h => h) (Or.inr ⟨by rfl, rfl⟩) HSwd.out ?re36
        simp only [List.getElem_toArray, List.getElem_cons_succ, List.getElem_cons_zero, Act.put, List.setIfInBounds_toArray, List.set_cons_zero, List.set_cons_succ]
        refine wpAnyH_take (i := 17) (v := undef) rfl (by kernel_rfl) (by kernel_rfl) (by kernel_rfl) (fun _ _ _ h => h) (Or.inr ⟨by rfl, rfl⟩) HSwd.out ?re37
        simp only [List.getElem_toArray, List.getElem_cons_succ, List.getElem_cons_zero, Act.put, List.setIfInBounds_toArray, List.set_cons_zero, List.set_cons_succ]
        refine wpAnyH_take (i := 18) (v := ?ve38) rfl (by kernel_rfl) (by kernel_rfl) (by kernel_rfl) (fun _ _ _ h => h) (Or.inl ⟨by rfl, ?ye38⟩) HSwd.out ?re38
        case ye38 => (intro w' hSw; clear hSw; go_simp; try with_reducible rfl)
        simp only [List.getElem_toArray, List.getElem_cons_succ, List.getElem_cons_zero, Act.put, List.setIfInBounds_toArray, List.set_cons_zero, List.set_cons_succ]
        refine wpAnyH_done (by kernel_rfl) ?_ _
        change Exit.then _ _ Exit.normal _ _
        obtain ⟨t0, t1, t2⟩ := HKd.out.cs
        dsimp only at t0 t1 t2
        go_wp2_with (refine wpList_store_row rfl 25 (.tmp 6) (.tmp 92) rfl gR (RkQ.cs ⟨g1, QA1, qn1, qc1, QK1, qnk1, qck1⟩) rfl rfl 25 (RkQ.cs ⟨g0, QA, qn, qc, QK, qnk, qck⟩) HKRd.out (rk_sized _) rfl (rk_all _) ?_)
        have HQ10 : Hid (RkB ⟨g1, QA1, qn1, qc1, QK1, qnk1, qck1⟩ (wd.setRow gR (RkQ.cs ⟨g1, QA1, qn1, qc1, QK1, qnk1, qck1⟩)) gR) := Lib.hid (setRow_heap wd gR _ _ 25 _ HKRd.out)
        have HI10 : Hid (RkIs (fun y => y ≠ gR) (wd.setRow gR (RkQ.cs ⟨g1, QA1, qn1, qc1, QK1, qnk1, qck1⟩)) ⟨g1, QA1, qn1, qc1, QK1, qnk1, qck1⟩ rn) := Lib.hid ((HId.out.keep (by simp [World.setRow]) fun y hy _ => setRow_other wd _ y _ (by have := HLG.out; omega)).mono fun y _ hy => by have := HLG.out; omega)
        have HB10 : Hid (Below w1.heap.size w1 (wd.setRow gR (RkQ.cs ⟨g1, QA1, qn1, qc1, QK1, qnk1, qck1⟩))) := Lib.hid (below_setRow HB13.out HL.out _)
        generalize wd.setRow gR (RkQ.cs ⟨g1, QA1, qn1, qc1, QK1, qnk1, qck1⟩) = w10 at *
        clear t0 t1 t2
        try simp only [Act.put]
        go_roundw
        case rel => exact ⟨i + 1, rn, _, by omega, by go_num, Lib.hid ⟨HR'.out, HGN.out⟩, HQ10, HI10, HB10⟩
        case measure => simp [intOf]; omega
    obtain ⟨hp0, hl0⟩ := HLA.out h0
    obtain ⟨M, hM⟩ : ∃ M, qnk1 = M + 1 := ⟨qnk1 - 1, by omega⟩
    obtain ⟨gm, hgm⟩ : ∃ x, gN - 1 = x := ⟨_, rfl⟩
    obtain ⟨ad1, had1⟩ := HI13.out.kept.some hp0
    dsimp only at had1
    subst had1
    obtain ⟨⟨pg, PA, pm, pc⟩, hat, his⟩ := HI13.out.kept.at (qnk1 - 1) (by show _ < qnk1; omega)
    obtain rfl : pg = gm := by have h1 : pg = (kd rn.kept (qnk1 - 1)).g := his.g; rw [h1, hl0, hgm]
    rw [show qnk1 - 1 = M by omega] at hat
    have HP : Hid (∀ W, Below w13.drew.heap.size w13.drew W → KdAt W (ad1.add (M * 2)) ⟨pg, PA, pm, pc⟩) := Lib.hid fun W hb => (hat.of_block rfl).of_block (hb.block _ (block_lt_of_cell hat.cells.1))
    have HZ3 : Hid (Unit → decide ((N : Int) > 0) = true) := Lib.hid fun _ => decide_eq_true (by omega)
    have HZ7 : Hid (Unit → decide (0 < N) = true) := Lib.hid fun _ => decide_eq_true (by omega)
    have HZ8 : Hid (Unit → decide (0 < (N : Int)) = true) := Lib.hid fun _ => decide_eq_true (by omega)
    have HZ5 : Hid (Unit → (qnk1 : Int) - 1 = (M : Int)) := Lib.hid fun _ => by omega
    have HZ6 : Hid (Unit → IntKind.i64.wrap (M : Int) = (M : Int)) := Lib.hid fun _ => by rw [IntKind.wrap_i64]; have := HZ4.out; omega
    have yM : (M : Int) < (qnk1 : Int) := by omega
    have HGM := Lib.hid hgm
    have HGW : Hid (IntKind.i64.wrap pg = pg) := Lib.hid (by rw [IntKind.wrap_i64]; omega)
    have HGV : Hid (IntKind.i64.wrap gN = gN) := Lib.hid (by rw [IntKind.wrap_i64]; omega)
    clear hat his hM hl0 h0 hgm
    rcases hz with ⟨y5, z4⟩ | ⟨y5, z4⟩
    · go_wp2
      have HKd : Hid (RkB ⟨g1, QA1, qn1, qc1, some ad1, qnk1, qck1⟩ w13.drew gS) := HK13
      have HKRd : Hid (RkB ⟨g0, QA, qn, qc, QK, qnk, qck⟩ w13.drew gR) := HKR13
      have HId : Hid (RkIs (fun y => wr.heap.size ≤ y) w13.drew ⟨g1, QA1, qn1, qc1, some ad1, qnk1, qck1⟩ rn) := Lib.hid HI13.out.drew
      have HLd : Hid (wr.heap.size ≤ w13.drew.heap.size) := Lib.hid HLG.out.2
      clear hww13 hgS t0 t1 t2 r0 r1 r2 z3 y5 z4 HK13 HKR13 HI13 HBB
      try simp only [Act.put]
      refine Wr.region_calm ?_
      refine wp_region_any (by kernel_rfl) ?_
      change wpAny _ _ _ _ _ _ _ (World.drew w13)
      generalize World.drew w13 = wd at *
      have HSwd : Hid (Below wd.heap.size wd wd) := Lib.hid (Below.refl _ _)
      refine wpAny_of_held (S := fun W => Below wd.heap.size wd W) _ _ _ _ ?_
      refine wpAnyH_take (i := 0) (v := ?ve39) rfl (by kernel_rfl) (by kernel_rfl) (by kernel_rfl) (fun _ _ _ h => h) (Or.inl ⟨by rfl, ?ye39⟩) HSwd.out ?re39
      case ye39 => (intro w' hSw; clear hSw; go_simp; try with_reducible rfl)
      simp only [List.getElem_toArray, List.getElem_cons_succ, List.getElem_cons_zero, Act.put, List.setIfInBounds_toArray, List.set_cons_zero, List.set_cons_succ]
      refine wpAnyH_take (i := 1) (v := ?ve40) rfl (by kernel_rfl) (by kernel_rfl) (by kernel_rfl) (fun _ _ _ h => h) (Or.inl ⟨by rfl, ?ye40⟩) HSwd.out ?re40
      case ye40 => (intro w' hSw; have hq_wd : Below wd.heap.size wd w' := hSw; have hq := hq_wd; have z := HZ3.out (); have z2 := HZ7.out (); have z3 := HZ8.out (); clear hSw; try clear hq hq_wd; go_simp; try with_reducible rfl)
      simp only [List.getElem_toArray, List.getElem_cons_succ, List.getElem_cons_zero, Act.put, List.setIfInBounds_toArray, List.set_cons_zero, List.set_cons_succ]
      refine wpAnyH_take (i := 2) (v := ?ve41) rfl (by kernel_rfl) (by kernel_rfl) (by kernel_rfl) (fun _ _ _ h => h) (Or.inl ⟨by rfl, ?ye41⟩) HSwd.out ?re41
      case ye41 => (intro w' hSw; clear hSw; go_simp; try with_reducible rfl)
      simp only [List.getElem_toArray, List.getElem_cons_succ, List.getElem_cons_zero, Act.put, List.setIfInBounds_toArray, List.set_cons_zero, List.set_cons_succ]
      refine wpAnyH_take (i := 3) (v := ?ve42) rfl (by kernel_rfl) (by kernel_rfl) (by kernel_rfl) (fun _ _ _ h => h) (Or.inl ⟨by rfl, ?ye42⟩) HSwd.out ?re42
      case ye42 => (intro w' hSw; clear hSw; go_simp; try with_reducible rfl)
      simp only [List.getElem_toArray, List.getElem_cons_succ, List.getElem_cons_zero, Act.put, List.setIfInBounds_toArray, List.set_cons_zero, List.set_cons_succ]
      refine wpAnyH_take (i := 4) (v := ?ve43) rfl (by kernel_rfl) (by kernel_rfl) (by kernel_rfl) (fun _ _ _ h => h) (Or.inl ⟨by rfl, ?ye43⟩) HSwd.out ?re43
      case ye43 => (intro w' hSw; have hq_wd : Below wd.heap.size wd w' := hSw; have hq := hq_wd; obtain ⟨t0, t1, t2⟩ := (HKd.out.below hq HKd.out.lt).cs; obtain ⟨r0, r1, r2⟩ := (HKRd.out.below hq HKRd.out.lt).cs; obtain ⟨u0, u1⟩ := (HP.out _ hq).cells; clear hSw; try clear hq hq_wd; go_simp; try with_reducible rfl)
      simp only [List.getElem_toArray, List.getElem_cons_succ, List.getElem_cons_zero, Act.put, List.setIfInBounds_toArray, List.set_cons_zero, List.set_cons_succ]
      refine wpAnyH_take (i := 5) (v := ?ve44) rfl (by kernel_rfl) (by kernel_rfl) (by kernel_rfl) (fun _ _ _ h => h) (Or.inl ⟨by rfl, ?ye44⟩) HSwd.out ?re44
      case ye44 => (intro w' hSw; clear hSw; go_simp; try with_reducible rfl)
      simp only [List.getElem_toArray, List.getElem_cons_succ, List.getElem_cons_zero, Act.put, List.setIfInBounds_toArray, List.set_cons_zero, List.set_cons_succ]
      refine wpAnyH_take (i := 6) (v := ?ve45) rfl (by kernel_rfl) (by kernel_rfl) (by kernel_rfl) (fun _ _ _ h => h) (Or.inl ⟨by rfl, ?ye45⟩) HSwd.out ?re45
      case ye45 => (intro w' hSw; have hq_wd : Below wd.heap.size wd w' := hSw; have hq := hq_wd; obtain ⟨t0, t1, t2⟩ := (HKd.out.below hq HKd.out.lt).cs; obtain ⟨r0, r1, r2⟩ := (HKRd.out.below hq HKRd.out.lt).cs; obtain ⟨u0, u1⟩ := (HP.out _ hq).cells; clear hSw; try clear hq hq_wd; go_simp; try with_reducible rfl)
      simp only [List.getElem_toArray, List.getElem_cons_succ, List.getElem_cons_zero, Act.put, List.setIfInBounds_toArray, List.set_cons_zero, List.set_cons_succ]
      refine wpAnyH_take (i := 7) (v := ?ve46) rfl (by kernel_rfl) (by kernel_rfl) (by kernel_rfl) (fun _ _ _ h => h) (Or.inl ⟨by rfl, ?ye46⟩) HSwd.out ?re46
      case ye46 => (intro w' hSw; clear hSw; go_simp; try with_reducible rfl)
      simp only [List.getElem_toArray, List.getElem_cons_succ, List.getElem_cons_zero, Act.put, List.setIfInBounds_toArray, List.set_cons_zero, List.set_cons_succ]
      refine wpAnyH_take (i := 8) (v := ?ve47) rfl (by kernel_rfl) (by kernel_rfl) (by kernel_rfl) (fun _ _ _ h => h) (Or.inl ⟨by rfl, ?ye47⟩) HSwd.out ?re47
      case ye47 => (intro w' hSw; have hq_wd : Below wd.heap.size wd w' := hSw; have hq := hq_wd; have z := HZ5.out (); have z2 := HZ6.out (); clear hSw; try clear hq hq_wd; go_simp; try with_reducible rfl)
      simp only [List.getElem_toArray, List.getElem_cons_succ, List.getElem_cons_zero, Act.put, List.setIfInBounds_toArray, List.set_cons_zero, List.set_cons_succ]
      refine wpAnyH_take (i := 9) (v := ?ve48) rfl (by kernel_rfl) (by kernel_rfl) (by kernel_rfl) (fun _ _ _ h => h) (Or.inl ⟨by rfl, ?ye48⟩) HSwd.out ?re48
      case ye48 => (intro w' hSw; have hq_wd : Below wd.heap.size wd w' := hSw; have hq := hq_wd; have z := yM; clear hSw; try clear hq hq_wd; go_simp; try with_reducible rfl)
      simp only [List.getElem_toArray, List.getElem_cons_succ, List.getElem_cons_zero, Act.put, List.setIfInBounds_toArray, List.set_cons_zero, List.set_cons_succ]
      refine wpAnyH_take (i := 10) (v := ?ve49) rfl (by kernel_rfl) (by kernel_rfl) (by kernel_rfl) (fun _ _ _ h => h) (Or.inl ⟨by rfl, ?ye49⟩) HSwd.out ?re49
      case ye49 => (intro w' hSw; clear hSw; go_simp; try with_reducible rfl)
      simp only [List.getElem_toArray, List.getElem_cons_succ, List.getElem_cons_zero, Act.put, List.setIfInBounds_toArray, List.set_cons_zero, List.set_cons_succ]
      refine wpAnyH_take (i := 11) (v := ?ve50) rfl (by kernel_rfl) (by kernel_rfl) (by kernel_rfl) (fun _ _ _ h => h) (Or.inl ⟨by rfl, ?ye50⟩) HSwd.out ?re50
      case ye50 => (intro w' hSw; have hq_wd : Below wd.heap.size wd w' := hSw; have hq := hq_wd; obtain ⟨t0, t1, t2⟩ := (HKd.out.below hq HKd.out.lt).cs; obtain ⟨r0, r1, r2⟩ := (HKRd.out.below hq HKRd.out.lt).cs; obtain ⟨u0, u1⟩ := (HP.out _ hq).cells; clear hSw; try clear hq hq_wd; go_simp; try with_reducible rfl)
      simp only [List.getElem_toArray, List.getElem_cons_succ, List.getElem_cons_zero, Act.put, List.setIfInBounds_toArray, List.set_cons_zero, List.set_cons_succ]
      refine wpAnyH_take (i := 12) (v := ?ve51) rfl (by kernel_rfl) (by kernel_rfl) (by kernel_rfl) (fun _ _ _ h => h) (Or.inl ⟨by rfl, ?ye51⟩) HSwd.out ?re51
      case ye51 => (intro w' hSw; clear hSw; go_simp; try with_reducible rfl)
      simp only [List.getElem_toArray, List.getElem_cons_succ, List.getElem_cons_zero, Act.put, List.setIfInBounds_toArray, List.set_cons_zero, List.set_cons_succ]
      refine wpAnyH_take (i := 13) (v := ?ve52) rfl (by kernel_rfl) (by kernel_rfl) (by kernel_rfl) (fun _ _ _ h => h) (Or.inl ⟨by rfl, ?ye52⟩) HSwd.out ?re52
      case ye52 => (intro w' hSw; have hq_wd : Below wd.heap.size wd w' := hSw; have hq := hq_wd; obtain ⟨t0, t1, t2⟩ := (HKd.out.below hq HKd.out.lt).cs; obtain ⟨r0, r1, r2⟩ := (HKRd.out.below hq HKRd.out.lt).cs; obtain ⟨u0, u1⟩ := (HP.out _ hq).cells; clear hSw; try clear hq hq_wd; go_simp; try with_reducible rfl)
      simp only [List.getElem_toArray, List.getElem_cons_succ, List.getElem_cons_zero, Act.put, List.setIfInBounds_toArray, List.set_cons_zero, List.set_cons_succ]
      refine wpAnyH_take (i := 14) (v := ?ve53) rfl (by kernel_rfl) (by kernel_rfl) (by kernel_rfl) (fun _ _ _ h => h) (Or.inl ⟨by rfl, ?ye53⟩) HSwd.out ?re53
      case ye53 => (intro w' hSw; clear hSw; go_simp; try with_reducible rfl)
      simp only [List.getElem_toArray, List.getElem_cons_succ, List.getElem_cons_zero, Act.put, List.setIfInBounds_toArray, List.set_cons_zero, List.set_cons_succ]
      refine wpAnyH_take (i := 15) (v := ?ve54) rfl (by kernel_rfl) (by kernel_rfl) (by kernel_rfl) (fun _ _ _ h => h) (Or.inl ⟨by rfl, ?ye54⟩) HSwd.out ?re54
      case ye54 => (intro w' hSw; have hq_wd : Below wd.heap.size wd w' := hSw; have hq := hq_wd; have z := HGV.out; clear hSw; try clear hq hq_wd; go_simp; try with_reducible rfl)
      simp only [List.getElem_toArray, List.getElem_cons_succ, List.getElem_cons_zero, Act.put, List.setIfInBounds_toArray, List.set_cons_zero, List.set_cons_succ]
      refine wpAnyH_take (i := 16) (v := ?ve55) rfl (by kernel_rfl) (by kernel_rfl) (by kernel_rfl) (fun _ _ _ h => h) (Or.inl ⟨by rfl, ?ye55⟩) HSwd.out ?re55
      case ye55 => (intro w' hSw; have hq_wd : Below wd.heap.size wd w' := hSw; have hq := hq_wd; have z := HGM.out; have z2 := HGW.out; clear hSw; try clear hq hq_wd; go_simp; try with_reducible rfl)
      simp only [List.getElem_toArray, List.getElem_cons_succ, List.getElem_cons_zero, Act.put, List.setIfInBounds_toArray, List.set_cons_zero, List.set_cons_succ]
      refine wpAnyH_take (i := 17) (v := ?ve56) rfl (by kernel_rfl) (by kernel_rfl) (by kernel_rfl) (fun _ _ _ h => h) (Or.inl ⟨by rfl, ?ye56⟩) HSwd.out ?re56
      case ye56 => (intro w' hSw; clear hSw; go_simp; try with_reducible rfl)
      simp only [List.getElem_toArray, List.getElem_cons_succ, List.getElem_cons_zero, Act.put, List.setIfInBounds_toArray, List.set_cons_zero, List.set_cons_succ]
      refine wpAnyH_take (i := 18) (v := ?ve57) rfl (by kernel_rfl) (by kernel_rfl) (by kernel_rfl) (fun _ _ _ h => h) (Or.inl ⟨by rfl, ?ye57⟩) HSwd.out ?re57
      case ye57 => (intro w' hSw; clear hSw; go_simp; try with_reducible rfl)
      simp only [List.getElem_toArray, List.getElem_cons_succ, List.getElem_cons_zero, Act.put, List.setIfInBounds_toArray, List.set_cons_zero, List.set_cons_succ]
      refine wpAnyH_done (by kernel_rfl) ?_ _
      change Exit.then _ _ Exit.normal _ _
      obtain ⟨t0, t1, t2⟩ := HKd.out.cs
      dsimp only at t0 t1 t2
      go_wp2_with (refine wpList_store_row rfl 25 (.tmp 6) (.tmp 92) rfl gR (RkQ.cs ⟨g1, QA1, qn1, qc1, some ad1, qnk1, qck1⟩) rfl rfl 25 (RkQ.cs ⟨g0, QA, qn, qc, QK, qnk, qck⟩) HKRd.out (rk_sized _) rfl (rk_all _) ?_)
      have HQ10 : Hid (RkB ⟨g1, QA1, qn1, qc1, some ad1, qnk1, qck1⟩ (wd.setRow gR (RkQ.cs ⟨g1, QA1, qn1, qc1, some ad1, qnk1, qck1⟩)) gR) := Lib.hid (setRow_heap wd gR _ _ 25 _ HKRd.out)
      have HI10 : Hid (RkIs (fun y => y ≠ gR) (wd.setRow gR (RkQ.cs ⟨g1, QA1, qn1, qc1, some ad1, qnk1, qck1⟩)) ⟨g1, QA1, qn1, qc1, some ad1, qnk1, qck1⟩ rn) := Lib.hid ((HId.out.keep (by simp [World.setRow]) fun y hy _ => setRow_other wd _ y _ (by have := HLG.out; omega)).mono fun y _ hy => by have := HLG.out; omega)
      have HB10 : Hid (Below w1.heap.size w1 (wd.setRow gR (RkQ.cs ⟨g1, QA1, qn1, qc1, some ad1, qnk1, qck1⟩))) := Lib.hid (below_setRow HB13.out HL.out _)
      generalize wd.setRow gR (RkQ.cs ⟨g1, QA1, qn1, qc1, some ad1, qnk1, qck1⟩) = w10 at *
      clear t0 t1 t2
      try simp only [Act.put]
      go_roundw
      case rel => exact ⟨i + 1, rn, _, by omega, by go_num, Lib.hid ⟨HR'.out, HGN.out⟩, HQ10, HI10, HB10⟩
      case measure => simp [intOf]; omega
    · go_wp2
      have HKd : Hid (RkB ⟨g1, QA1, qn1, qc1, some ad1, qnk1, qck1⟩ w13.drew gS) := HK13
      have HKRd : Hid (RkB ⟨g0, QA, qn, qc, QK, qnk, qck⟩ w13.drew gR) := HKR13
      have HId : Hid (RkIs (fun y => wr.heap.size ≤ y) w13.drew ⟨g1, QA1, qn1, qc1, some ad1, qnk1, qck1⟩ rn) := Lib.hid HI13.out.drew
      have HLd : Hid (wr.heap.size ≤ w13.drew.heap.size) := Lib.hid HLG.out.2
      clear hww13 hgS t0 t1 t2 r0 r1 r2 z3 y5 z4 HK13 HKR13 HI13 HBB
      try simp only [Act.put]
      refine Wr.region_calm ?_
      refine wp_region_any (by kernel_rfl) ?_
      change wpAny _ _ _ _ _ _ _ (World.drew w13)
      generalize World.drew w13 = wd at *
      have HSwd : Hid (Below wd.heap.size wd wd) := Lib.hid (Below.refl _ _)
      refine wpAny_of_held (S := fun W => Below wd.heap.size wd W) _ _ _ _ ?_
      refine wpAnyH_take (i := 0) (v := ?ve58) rfl (by kernel_rfl) (by kernel_rfl) (by kernel_rfl) (fun _ _ _ h => h) (Or.inl ⟨by rfl, ?ye58⟩) HSwd.out ?re58
      case ye58 => (intro w' hSw; clear hSw; go_simp; try with_reducible rfl)
      simp only [List.getElem_toArray, List.getElem_cons_succ, List.getElem_cons_zero, Act.put, List.setIfInBounds_toArray, List.set_cons_zero, List.set_cons_succ]
      refine wpAnyH_take (i := 1) (v := ?ve59) rfl (by kernel_rfl) (by kernel_rfl) (by kernel_rfl) (fun _ _ _ h => h) (Or.inl ⟨by rfl, ?ye59⟩) HSwd.out ?re59
      case ye59 => (intro w' hSw; have hq_wd : Below wd.heap.size wd w' := hSw; have hq := hq_wd; have z := HZ3.out (); have z2 := HZ7.out (); have z3 := HZ8.out (); clear hSw; try clear hq hq_wd; go_simp; try with_reducible rfl)
      simp only [List.getElem_toArray, List.getElem_cons_succ, List.getElem_cons_zero, Act.put, List.setIfInBounds_toArray, List.set_cons_zero, List.set_cons_succ]
      refine wpAnyH_take (i := 2) (v := ?ve60) rfl (by kernel_rfl) (by kernel_rfl) (by kernel_rfl) (fun _ _ _ h => h) (Or.inl ⟨by rfl, ?ye60⟩) HSwd.out ?re60
      case ye60 => (intro w' hSw; clear hSw; go_simp; try with_reducible rfl)
      simp only [List.getElem_toArray, List.getElem_cons_succ, List.getElem_cons_zero, Act.put, List.setIfInBounds_toArray, List.set_cons_zero, List.set_cons_succ]
      refine wpAnyH_take (i := 3) (v := ?ve61) rfl (by kernel_rfl) (by kernel_rfl) (by kernel_rfl) (fun _ _ _ h => h) (Or.inl ⟨by rfl, ?ye61⟩) HSwd.out ?re61
      case ye61 => (intro w' hSw; clear hSw; go_simp; try with_reducible rfl)
      simp only [List.getElem_toArray, List.getElem_cons_succ, List.getElem_cons_zero, Act.put, List.setIfInBounds_toArray, List.set_cons_zero, List.set_cons_succ]
      refine wpAnyH_take (i := 4) (v := ?ve62) rfl (by kernel_rfl) (by kernel_rfl) (by kernel_rfl) (fun _ _ _ h => h) (Or.inl ⟨by rfl, ?ye62⟩) HSwd.out ?re62
      case ye62 => (intro w' hSw; have hq_wd : Below wd.heap.size wd w' := hSw; have hq := hq_wd; obtain ⟨t0, t1, t2⟩ := (HKd.out.below hq HKd.out.lt).cs; obtain ⟨r0, r1, r2⟩ := (HKRd.out.below hq HKRd.out.lt).cs; obtain ⟨u0, u1⟩ := (HP.out _ hq).cells; clear hSw; try clear hq hq_wd; go_simp; try with_reducible rfl)
      simp only [List.getElem_toArray, List.getElem_cons_succ, List.getElem_cons_zero, Act.put, List.setIfInBounds_toArray, List.set_cons_zero, List.set_cons_succ]
      refine wpAnyH_take (i := 5) (v := ?ve63) rfl (by kernel_rfl) (by kernel_rfl) (by kernel_rfl) (fun _ _ _ h => h) (Or.inl ⟨by rfl, ?ye63⟩) HSwd.out ?re63
      case ye63 => (intro w' hSw; clear hSw; go_simp; try with_reducible rfl)
      simp only [List.getElem_toArray, List.getElem_cons_succ, List.getElem_cons_zero, Act.put, List.setIfInBounds_toArray, List.set_cons_zero, List.set_cons_succ]
      refine wpAnyH_take (i := 6) (v := ?ve64) rfl (by kernel_rfl) (by kernel_rfl) (by kernel_rfl) (fun _ _ _ h => h) (Or.inl ⟨by rfl, ?ye64⟩) HSwd.out ?re64
      case ye64 => (intro w' hSw; have hq_wd : Below wd.heap.size wd w' := hSw; have hq := hq_wd; obtain ⟨t0, t1, t2⟩ := (HKd.out.below hq HKd.out.lt).cs; obtain ⟨r0, r1, r2⟩ := (HKRd.out.below hq HKRd.out.lt).cs; obtain ⟨u0, u1⟩ := (HP.out _ hq).cells; clear hSw; try clear hq hq_wd; go_simp; try with_reducible rfl)
      simp only [List.getElem_toArray, List.getElem_cons_succ, List.getElem_cons_zero, Act.put, List.setIfInBounds_toArray, List.set_cons_zero, List.set_cons_succ]
      refine wpAnyH_take (i := 7) (v := ?ve65) rfl (by kernel_rfl) (by kernel_rfl) (by kernel_rfl) (fun _ _ _ h => h) (Or.inl ⟨by rfl, ?ye65⟩) HSwd.out ?re65
      case ye65 => (intro w' hSw; clear hSw; go_simp; try with_reducible rfl)
      simp only [List.getElem_toArray, List.getElem_cons_succ, List.getElem_cons_zero, Act.put, List.setIfInBounds_toArray, List.set_cons_zero, List.set_cons_succ]
      refine wpAnyH_take (i := 8) (v := ?ve66) rfl (by kernel_rfl) (by kernel_rfl) (by kernel_rfl) (fun _ _ _ h => h) (Or.inl ⟨by rfl, ?ye66⟩) HSwd.out ?re66
      case ye66 => (intro w' hSw; have hq_wd : Below wd.heap.size wd w' := hSw; have hq := hq_wd; have z := HZ5.out (); have z2 := HZ6.out (); clear hSw; try clear hq hq_wd; go_simp; try with_reducible rfl)
      simp only [List.getElem_toArray, List.getElem_cons_succ, List.getElem_cons_zero, Act.put, List.setIfInBounds_toArray, List.set_cons_zero, List.set_cons_succ]
      refine wpAnyH_take (i := 9) (v := ?ve67) rfl (by kernel_rfl) (by kernel_rfl) (by kernel_rfl) (fun _ _ _ h => h) (Or.inl ⟨by rfl, ?ye67⟩) HSwd.out ?re67
      case ye67 => (intro w' hSw; have hq_wd : Below wd.heap.size wd w' := hSw; have hq := hq_wd; have z := yM; clear hSw; try clear hq hq_wd; go_simp; try with_reducible rfl)
      simp only [List.getElem_toArray, List.getElem_cons_succ, List.getElem_cons_zero, Act.put, List.setIfInBounds_toArray, List.set_cons_zero, List.set_cons_succ]
      refine wpAnyH_take (i := 10) (v := ?ve68) rfl (by kernel_rfl) (by kernel_rfl) (by kernel_rfl) (fun _ _ _ h => h) (Or.inl ⟨by rfl, ?ye68⟩) HSwd.out ?re68
      case ye68 => (intro w' hSw; clear hSw; go_simp; try with_reducible rfl)
      simp only [List.getElem_toArray, List.getElem_cons_succ, List.getElem_cons_zero, Act.put, List.setIfInBounds_toArray, List.set_cons_zero, List.set_cons_succ]
      refine wpAnyH_take (i := 11) (v := ?ve69) rfl (by kernel_rfl) (by kernel_rfl) (by kernel_rfl) (fun _ _ _ h => h) (Or.inl ⟨by rfl, ?ye69⟩) HSwd.out ?re69
      case ye69 => (intro w' hSw; have hq_wd : Below wd.heap.size wd w' := hSw; have hq := hq_wd; obtain ⟨t0, t1, t2⟩ := (HKd.out.below hq HKd.out.lt).cs; obtain ⟨r0, r1, r2⟩ := (HKRd.out.below hq HKRd.out.lt).cs; obtain ⟨u0, u1⟩ := (HP.out _ hq).cells; clear hSw; try clear hq hq_wd; go_simp; try with_reducible rfl)
      simp only [List.getElem_toArray, List.getElem_cons_succ, List.getElem_cons_zero, Act.put, List.setIfInBounds_toArray, List.set_cons_zero, List.set_cons_succ]
      refine wpAnyH_take (i := 12) (v := ?ve70) rfl (by kernel_rfl) (by kernel_rfl) (by kernel_rfl) (fun _ _ _ h => h) (Or.inl ⟨by rfl, ?ye70⟩) HSwd.out ?re70
      case ye70 => (intro w' hSw; clear hSw; go_simp; try with_reducible rfl)
      simp only [List.getElem_toArray, List.getElem_cons_succ, List.getElem_cons_zero, Act.put, List.setIfInBounds_toArray, List.set_cons_zero, List.set_cons_succ]
      refine wpAnyH_take (i := 13) (v := ?ve71) rfl (by kernel_rfl) (by kernel_rfl) (by kernel_rfl) (fun _ _ _ h => h) (Or.inl ⟨by rfl, ?ye71⟩) HSwd.out ?re71
      case ye71 => (intro w' hSw; have hq_wd : Below wd.heap.size wd w' := hSw; have hq := hq_wd; obtain ⟨t0, t1, t2⟩ := (HKd.out.below hq HKd.out.lt).cs; obtain ⟨r0, r1, r2⟩ := (HKRd.out.below hq HKRd.out.lt).cs; obtain ⟨u0, u1⟩ := (HP.out _ hq).cells; clear hSw; try clear hq hq_wd; go_simp; try with_reducible rfl)
      simp only [List.getElem_toArray, List.getElem_cons_succ, List.getElem_cons_zero, Act.put, List.setIfInBounds_toArray, List.set_cons_zero, List.set_cons_succ]
      refine wpAnyH_take (i := 14) (v := ?ve72) rfl (by kernel_rfl) (by kernel_rfl) (by kernel_rfl) (fun _ _ _ h => h) (Or.inl ⟨by rfl, ?ye72⟩) HSwd.out ?re72
      case ye72 => (intro w' hSw; clear hSw; go_simp; try with_reducible rfl)
      simp only [List.getElem_toArray, List.getElem_cons_succ, List.getElem_cons_zero, Act.put, List.setIfInBounds_toArray, List.set_cons_zero, List.set_cons_succ]
      refine wpAnyH_take (i := 15) (v := ?ve73) rfl (by kernel_rfl) (by kernel_rfl) (by kernel_rfl) (fun _ _ _ h => h) (Or.inl ⟨by rfl, ?ye73⟩) HSwd.out ?re73
      case ye73 => (intro w' hSw; have hq_wd : Below wd.heap.size wd w' := hSw; have hq := hq_wd; have z := HGV.out; clear hSw; try clear hq hq_wd; go_simp; try with_reducible rfl)
      simp only [List.getElem_toArray, List.getElem_cons_succ, List.getElem_cons_zero, Act.put, List.setIfInBounds_toArray, List.set_cons_zero, List.set_cons_succ]
      refine wpAnyH_take (i := 16) (v := ?ve74) rfl (by kernel_rfl) (by kernel_rfl) (by kernel_rfl) (fun _ _ _ h => h) (Or.inl ⟨by rfl, ?ye74⟩) HSwd.out ?re74
      case ye74 => (intro w' hSw; have hq_wd : Below wd.heap.size wd w' := hSw; have hq := hq_wd; have z := HGM.out; have z2 := HGW.out; clear hSw; try clear hq hq_wd; go_simp; try with_reducible rfl)
      simp only [List.getElem_toArray, List.getElem_cons_succ, List.getElem_cons_zero, Act.put, List.setIfInBounds_toArray, List.set_cons_zero, List.set_cons_succ]
      refine wpAnyH_take (i := 17) (v := ?ve75) rfl (by kernel_rfl) (by kernel_rfl) (by kernel_rfl) (fun _ _ _ h => h) (Or.inl ⟨by rfl, ?ye75⟩) HSwd.out ?re75
      case ye75 => (intro w' hSw; clear hSw; go_simp; try with_reducible rfl)
      simp only [List.getElem_toArray, List.getElem_cons_succ, List.getElem_cons_zero, Act.put, List.setIfInBounds_toArray, List.set_cons_zero, List.set_cons_succ]
      refine wpAnyH_take (i := 18) (v := ?ve76) rfl (by kernel_rfl) (by kernel_rfl) (by kernel_rfl) (fun _ _ _ h => h) (Or.inl ⟨by rfl, ?ye76⟩) HSwd.out ?re76
      case ye76 => (intro w' hSw; clear hSw; go_simp; try with_reducible rfl)
      simp only [List.getElem_toArray, List.getElem_cons_succ, List.getElem_cons_zero, Act.put, List.setIfInBounds_toArray, List.set_cons_zero, List.set_cons_succ]
      refine wpAnyH_done (by kernel_rfl) ?_ _
      change Exit.then _ _ Exit.normal _ _
      obtain ⟨t0, t1, t2⟩ := HKd.out.cs
      dsimp only at t0 t1 t2
      go_wp2_with (refine wpList_store_row rfl 25 (.tmp 6) (.tmp 92) rfl gR (RkQ.cs ⟨g1, QA1, qn1, qc1, some ad1, qnk1, qck1⟩) rfl rfl 25 (RkQ.cs ⟨g0, QA, qn, qc, QK, qnk, qck⟩) HKRd.out (rk_sized _) rfl (rk_all _) ?_)
      have HQ10 : Hid (RkB ⟨g1, QA1, qn1, qc1, some ad1, qnk1, qck1⟩ (wd.setRow gR (RkQ.cs ⟨g1, QA1, qn1, qc1, some ad1, qnk1, qck1⟩)) gR) := Lib.hid (setRow_heap wd gR _ _ 25 _ HKRd.out)
      have HI10 : Hid (RkIs (fun y => y ≠ gR) (wd.setRow gR (RkQ.cs ⟨g1, QA1, qn1, qc1, some ad1, qnk1, qck1⟩)) ⟨g1, QA1, qn1, qc1, some ad1, qnk1, qck1⟩ rn) := Lib.hid ((HId.out.keep (by simp [World.setRow]) fun y hy _ => setRow_other wd _ y _ (by have := HLG.out; omega)).mono fun y _ hy => by have := HLG.out; omega)
      have HB10 : Hid (Below w1.heap.size w1 (wd.setRow gR (RkQ.cs ⟨g1, QA1, qn1, qc1, some ad1, qnk1, qck1⟩))) := Lib.hid (below_setRow HB13.out HL.out _)
      generalize wd.setRow gR (RkQ.cs ⟨g1, QA1, qn1, qc1, some ad1, qnk1, qck1⟩) = w10 at *
      clear t0 t1 t2
      try simp only [Act.put]
      go_roundw
      case rel => exact ⟨i + 1, rn, _, by omega, by go_num, Lib.hid ⟨HR'.out, HGN.out⟩, HQ10, HI10, HB10⟩
      case measure => simp [intOf]; omega
end Go.Proofs.YtkplkfokpniflaaDoor.Ra
