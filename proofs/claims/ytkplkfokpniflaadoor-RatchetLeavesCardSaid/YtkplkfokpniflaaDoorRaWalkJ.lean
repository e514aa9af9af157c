/- Walks: Take. Written by tools/mk_rawalkj.py. -/
import Derived.Test.YtkplkfokpniflaaDoorRaWalkI
namespace Go.Proofs.YtkplkfokpniflaaDoor.Ra
set_option linter.all false
open Go.RowKit
open Wr (Txt Any New bcells gt)

theorem take_wrong {r : Rk} {g : Int} (h : rightR r = false) : takeR r g = (zR, [], 1) := if_pos h
theorem take_past {r : Rk} {g : Int} (h : rightR r = true) (h1 : g < r.gen) : takeR r g = keptR r g := by
  unfold takeR keptR; rw [if_neg (by rw [h]; decide), if_pos h1]; cases at' g r.kept <;> rfl
theorem take_far {r : Rk} {g : Int} (h : rightR r = true) (h1 : ¬ g < r.gen) (h2 : 8 < g - r.gen) : takeR r g = (zR, [], 172) := by
  unfold takeR; rw [if_neg (by rw [h]; decide), if_neg h1, if_pos h2]
theorem take_many {r : Rk} {g : Int} (h : rightR r = true) (h1 : ¬ g < r.gen) (h2 : ¬ 8 < g - r.gen) (h3 : 1073741824 ≤ g) : takeR r g = (zR, [], 2) := by
  unfold takeR; rw [if_neg (by rw [h]; decide), if_neg h1, if_neg h2, if_pos h3]
theorem take_on {r : Rk} {g : Int} (h : rightR r = true) (h1 : ¬ g < r.gen) (h2 : ¬ 8 < g - r.gen) (h3 : ¬ 1073741824 ≤ g) : takeR r g = (nextR (over (g - r.gen).toNat r), ky (over (g - r.gen).toNat r).sec g, 0) := by
  unfold takeR; rw [if_neg (by rw [h]; decide), if_neg h1, if_neg h2, if_neg h3]

set_option maxHeartbeats 4000000 in
set_option maxRecDepth 100000 in
theorem take_is (q : RkQ) (r : Rk) (gen : Int) (w : World) (hT : Tabs w) (hq : RkIs Any w q r) (hgen : gen ≤ 9223372036854775807) :
    Calls Tryd.prog 19 #[.agg q.cs, .int .i64 gen] w (Taken (takeR r gen) w) := by
  obtain ⟨W2, hW2, g1, g2, hB2⟩ := two_rks w q zRQ
  obtain ⟨b, hb⟩ : ∃ b, rightR r = b := ⟨_, rfl⟩
  have CR := Lib.hid (right_is q r b W2 (hq.below hB2) hb)
  have HT := Lib.hid hT; have HQ := Lib.hid hq
  have B2 := Lib.hid hB2; have G1 := Lib.hid g1; have G2 := Lib.hid g2
  have L1 := Lib.hid g1.lt; have L2 := Lib.hid g2.lt
  have hgg := hq.g
  obtain ⟨g, A, n, c, K, nk, ck⟩ := q
  dsimp only [RkQ.cs, zRQ] at *
  obtain ⟨s0, s1, s2⟩ := g1.cs
  dsimp only at s0 s1 s2
  clear hq g1 g2 hB2 hT
  cases b with
  | false =>
    rw [take_wrong hb]
    clear hb hgg hgen
    go_enter Tryd.func19, Tryd.ntmps19
    go_wp2_with fail
    refine CR.out.mono ?_
    rintro e' w3 ⟨rfl, hb⟩
    have HB3 := Lib.hid (B2.out.trans (hb.mono B2.out.size)); have HZ3 := Lib.hid (G2.out.below hb L2.out); have HC3 := Lib.hid hb
    clear hb s0 s1 s2 hW2
    obtain ⟨s0, s1, s2⟩ := (G1.out.below HC3.out L1.out).cs
    dsimp only at s0 s1 s2
    go_wp2_with (refine wpList_store_row rfl 25 (.tmp 4) (.tmp 12) rfl (w.heap.size + 1) (RkQ.cs ⟨0, none, 0, 0, none, 0, 0⟩) rfl rfl 25 (RkQ.cs ⟨0, none, 0, 0, none, 0, 0⟩) HZ3.out (rk_sized _) rfl (rk_all _) ?_)
    have HQZ := Lib.hid (setRow_heap w3 (w.heap.size + 1) _ (RkQ.cs ⟨0, none, 0, 0, none, 0, 0⟩) 25 _ HZ3.out)
    refine bodyPost_ret (v := .tuple #[.agg (RkQ.cs ⟨0, none, 0, 0, none, 0, 0⟩), .slice none 0 0, .int .i64 1]) (results3 (p := 4) (u := 5) (v := 6) (ty := 25) (by kernel_rfl) _ _ (w.heap.size + 1) 25 (RkQ.cs ⟨0, none, 0, 0, none, 0, 0⟩) (0, 0) _ rfl HQZ.out Tryd.underlying25 rfl (rk_sized _)) rfl ⟨zRQ, none, 0, 0, rfl, RkIs.zero _ _, Txt.nil _ _, fun h => absurd h (by decide), below_setRow HB3.out (by omega) _⟩
  | true =>
  have hr := (right_iff r).1 hb
  have hlo := hr.lo
  by_cases h1 : gen < r.gen
  case pos =>
    rw [take_past hb h1]
    have CK := Lib.hid (fun W (hw : Below w.heap.size w W) => takeKept_is ⟨g, A, n, c, K, nk, ck⟩ r gen W (HQ.out.below hw) hr)
    have y1 : gen < g := by omega
    obtain ⟨x, hx⟩ : ∃ x, keptR r gen = x := ⟨_, rfl⟩
    rw [hx] at CK ⊢
    clear hb hr h1 hgg hx hlo
    go_enter Tryd.func19, Tryd.ntmps19
    go_wp2_with fail
    refine CR.out.mono ?_
    rintro e' w3 ⟨rfl, hb⟩
    have HB3 := Lib.hid (B2.out.trans (hb.mono B2.out.size)); have HZ3 := Lib.hid (G2.out.below hb L2.out); have HC3 := Lib.hid hb
    clear hb s0 s1 s2 hW2
    obtain ⟨s0, s1, s2⟩ := (G1.out.below HC3.out L1.out).cs
    dsimp only at s0 s1 s2
    go_wp2_with fail
    refine (CK.out w3 HB3.out).mono ?_
    rintro e' w4 ⟨⟨qg, QA, qn, qc, QK, qnk, qck⟩, A4, n4, c4, rfl, hI, hX, hXI, hb⟩
    dsimp only [RkQ.cs]
    have HI := Lib.hid hI; have HX := Lib.hid hX; have HXI := Lib.hid hXI
    have HB4 := Lib.hid (HB3.out.trans (hb.mono HB3.out.size)); have HZ4 := Lib.hid (HZ3.out.below hb HZ3.out.lt)
    have HL3 := Lib.hid HZ3.out.lt
    clear hI hX hXI hb s0 s1 s2
    go_wp2_with (refine wpList_store_row rfl 25 (.tmp 4) (.tmp 20) rfl (w.heap.size + 1) (RkQ.cs ⟨qg, QA, qn, qc, QK, qnk, qck⟩) rfl rfl 25 (RkQ.cs ⟨0, none, 0, 0, none, 0, 0⟩) HZ4.out (rk_sized _) rfl (rk_all _) ?_)
    have HQZ := Lib.hid (setRow_heap w4 (w.heap.size + 1) _ (RkQ.cs ⟨qg, QA, qn, qc, QK, qnk, qck⟩) 25 _ HZ4.out)
    have z1 := HL3.out; have z3 := HB3.out.size
    have hso : ∀ y, w3.heap.size ≤ y → y < w4.heap.size → (w4.setRow (w.heap.size + 1) (RkQ.cs ⟨qg, QA, qn, qc, QK, qnk, qck⟩)).heap[y]? = w4.heap[y]? := fun y hy _ => setRow_other w4 _ y _ (by omega)
    refine bodyPost_ret (v := .tuple #[.agg (RkQ.cs ⟨qg, QA, qn, qc, QK, qnk, qck⟩), .slice A4 n4 c4, .int .i64 x.2.2]) (results3 (p := 4) (u := 5) (v := 6) (ty := 25) (by kernel_rfl) _ _ (w.heap.size + 1) 25 (RkQ.cs ⟨qg, QA, qn, qc, QK, qnk, qck⟩) (0, 0) _ rfl HQZ.out Tryd.underlying25 rfl (rk_sized _)) rfl ⟨⟨qg, QA, qn, qc, QK, qnk, qck⟩, A4, n4, c4, rfl, (HI.out.keep (by simp [World.setRow]) hso).mono fun y _ hy => by omega, txt_keep HX.out HXI.out (by simp [World.setRow]) hso, HXI.out.mono fun y hy => by omega, below_setRow HB4.out (by omega) _⟩
  have y1 : ¬ gen < g := by omega
  by_cases h2 : 8 < gen - r.gen
  case pos =>
    rw [take_far hb h1 h2]
    obtain ⟨d, hd⟩ : ∃ d, gen - g = d := ⟨_, rfl⟩
    have y2 : d > 8 := by omega
    have y3 : IntKind.i64.wrap d = d := by rw [IntKind.wrap_i64]; omega
    have y4 : IntKind.i64.wrap (gen - g) = d := by rw [hd]; exact y3
    clear hb hr h1 h2 hgg hlo
    go_enter Tryd.func19, Tryd.ntmps19
    go_wp2_with fail
    refine CR.out.mono ?_
    rintro e' w3 ⟨rfl, hb⟩
    have HB3 := Lib.hid (B2.out.trans (hb.mono B2.out.size)); have HZ3 := Lib.hid (G2.out.below hb L2.out); have HC3 := Lib.hid hb
    clear hb s0 s1 s2 hW2
    obtain ⟨s0, s1, s2⟩ := (G1.out.below HC3.out L1.out).cs
    dsimp only at s0 s1 s2
    go_wp2_with (refine wpList_store_row rfl 25 (.tmp 4) (.tmp 28) rfl (w.heap.size + 1) (RkQ.cs ⟨0, none, 0, 0, none, 0, 0⟩) rfl rfl 25 (RkQ.cs ⟨0, none, 0, 0, none, 0, 0⟩) HZ3.out (rk_sized _) rfl (rk_all _) ?_)
    have HQZ := Lib.hid (setRow_heap w3 (w.heap.size + 1) _ (RkQ.cs ⟨0, none, 0, 0, none, 0, 0⟩) 25 _ HZ3.out)
    refine bodyPost_ret (v := .tuple #[.agg (RkQ.cs ⟨0, none, 0, 0, none, 0, 0⟩), .slice none 0 0, .int .i64 172]) (results3 (p := 4) (u := 5) (v := 6) (ty := 25) (by kernel_rfl) _ _ (w.heap.size + 1) 25 (RkQ.cs ⟨0, none, 0, 0, none, 0, 0⟩) (0, 0) _ rfl HQZ.out Tryd.underlying25 rfl (rk_sized _)) rfl ⟨zRQ, none, 0, 0, rfl, RkIs.zero _ _, Txt.nil _ _, fun h => absurd h (by decide), below_setRow HB3.out (by omega) _⟩
  obtain ⟨N, hN⟩ : ∃ N : Nat, gen - r.gen = (N : Int) := ⟨(gen - r.gen).toNat, by omega⟩
  have y2 : ¬ (N : Int) > 8 := by omega
  have y3 : IntKind.i64.wrap (N : Int) = (N : Int) := by rw [IntKind.wrap_i64]; omega
  have y0 : gen - g = (N : Int) := by rw [hgg]; exact hN
  have y4 : IntKind.i64.wrap (gen - g) = (N : Int) := by rw [y0]; exact y3
  by_cases h3 : 1073741824 ≤ gen
  case pos =>
    rw [take_many hb h1 h2 h3]
    have y5 : gen ≥ 1073741824 := h3
    clear hb hr h1 h2 h3 hgg hlo hN
    go_enter Tryd.func19, Tryd.ntmps19
    go_wp2_with fail
    refine CR.out.mono ?_
    rintro e' w3 ⟨rfl, hb⟩
    have HB3 := Lib.hid (B2.out.trans (hb.mono B2.out.size)); have HZ3 := Lib.hid (G2.out.below hb L2.out); have HC3 := Lib.hid hb
    clear hb s0 s1 s2 hW2
    obtain ⟨s0, s1, s2⟩ := (G1.out.below HC3.out L1.out).cs
    dsimp only at s0 s1 s2
    go_wp2_with (refine wpList_store_row rfl 25 (.tmp 4) (.tmp 31) rfl (w.heap.size + 1) (RkQ.cs ⟨0, none, 0, 0, none, 0, 0⟩) rfl rfl 25 (RkQ.cs ⟨0, none, 0, 0, none, 0, 0⟩) HZ3.out (rk_sized _) rfl (rk_all _) ?_)
    have HQZ := Lib.hid (setRow_heap w3 (w.heap.size + 1) _ (RkQ.cs ⟨0, none, 0, 0, none, 0, 0⟩) 25 _ HZ3.out)
    refine bodyPost_ret (v := .tuple #[.agg (RkQ.cs ⟨0, none, 0, 0, none, 0, 0⟩), .slice none 0 0, .int .i64 2]) (results3 (p := 4) (u := 5) (v := 6) (ty := 25) (by kernel_rfl) _ _ (w.heap.size + 1) 25 (RkQ.cs ⟨0, none, 0, 0, none, 0, 0⟩) (0, 0) _ rfl HQZ.out Tryd.underlying25 rfl (rk_sized _)) rfl ⟨zRQ, none, 0, 0, rfl, RkIs.zero _ _, Txt.nil _ _, fun h => absurd h (by decide), below_setRow HB3.out (by omega) _⟩
  rw [take_on hb h1 h2 h3]
  have y5 : ¬ gen ≥ 1073741824 := h3
  rw [hN, Int.toNat_natCast]
  have HO := Lib.hid (right_over N hr (by omega))
  have HOG : Hid ((over N r).gen = gen) := Lib.hid (by rw [over_gen]; omega)
  have CP := Lib.hid (fun W (hw : Below w.heap.size w W) => passedOver_is ⟨g, A, n, c, K, nk, ck⟩ r N W (HT.out.at hw) (HQ.out.below hw) hr (by omega))
  have hge : r.gen + (N : Int) = gen := by omega
  simp only [hge] at CP
  obtain ⟨r', hr'⟩ : ∃ x, over N r = x := ⟨_, rfl⟩
  rw [hr'] at HO HOG ⊢
  simp only [hr'] at CP
  dsimp only [RkQ.cs] at CP
  clear hb hr h1 h2 h3 hgg hlo hN hge hr'
  go_enter Tryd.func19, Tryd.ntmps19
  go_wp2_with fail
  refine CR.out.mono ?_
  rintro e' w3 ⟨rfl, hb⟩
  have HB3 := Lib.hid (B2.out.trans (hb.mono B2.out.size)); have HZ3 := Lib.hid (G2.out.below hb L2.out); have HC3 := Lib.hid hb
  clear hb s0 s1 s2 hW2
  obtain ⟨s0, s1, s2⟩ := (G1.out.below HC3.out L1.out).cs
  dsimp only at s0 s1 s2
  go_wp2_with fail
  refine (CP.out w3 HB3.out).mono ?_
  rintro e' w4 ⟨⟨qg, QA, qn, qc, QK, qnk, qck⟩, rfl, hI, hb⟩
  have HB4 := Lib.hid (HB3.out.trans (hb.mono HB3.out.size)); have HZ4 := Lib.hid (HZ3.out.below hb HZ3.out.lt)
  have HL4 := Lib.hid HZ4.out.lt
  obtain ⟨gp, hgp⟩ : ∃ x, qg + 1 = x := ⟨_, rfl⟩
  have HQG : Hid (qg = r'.gen) := Lib.hid hI.g
  have CS := stepped_is ⟨qg, QA, qn, qc, QK, qnk, qck⟩ r' w4 (HT.out.at HB4.out) hI.any HO.out (by rw [HOG.out]; omega)
  dsimp only [RkQ.cs] at CS ⊢
  simp only [hgp] at CS
  have CSH := Lib.hid CS; have HGP := Lib.hid hgp
  clear hI hb s0 s1 s2 CS hgp
  go_wp2_with fail
  refine CSH.out.mono ?_
  rintro e' w5 ⟨A1, c1, V, cv, A2, c2, rfl, hS⟩
  have HS := Lib.hid hS
  have b6 := (Below.refl w5.heap.size w5).alloc (Nat.le_refl _) (.cells (RkQ.cs ⟨gp, A1, 32, c1, V, qnk, cv⟩) 25)
  have k6 := RkB.new ⟨gp, A1, 32, c1, V, qnk, cv⟩ w5
  obtain ⟨w6, hw6⟩ : ∃ W, w5.alloc (.cells (RkQ.cs ⟨gp, A1, 32, c1, V, qnk, cv⟩) 25) = W := ⟨_, rfl⟩
  obtain ⟨g6, hg6⟩ : ∃ g, w5.heap.size = g := ⟨_, rfl⟩
  rw [hw6] at b6 k6
  rw [hg6] at k6
  dsimp only [RkQ.cs] at hw6
  have HB6 : Hid (Below w.heap.size w w6) := Lib.hid (HB4.out.trans ((hS.bel.trans (b6.mono hS.bel.size)).mono HB4.out.size))
  have HZ6 : Hid (RkB ⟨0, none, 0, 0, none, 0, 0⟩ w6 (w.heap.size + 1)) := Lib.hid ((HZ4.out.below hS.bel HL4.out).below b6 (Nat.lt_of_lt_of_le HL4.out hS.bel.size))
  have HO6 : Hid (OwnK (fun b => w4.heap.size ≤ b) w4.heap.size w6 (.slice V qnk cv) qnk r'.kept) := Lib.hid (hS.own.below b6)
  have HX6 : Hid (Txt Any w6 A1 32 c1 (nx r'.sec r'.gen)) := Lib.hid (hS.sec.below b6)
  have HY6 : Hid (Txt Any w6 A2 32 c2 (ky r'.sec gen)) := Lib.hid (by rw [← HOG.out]; exact hS.key.below b6)
  obtain ⟨t0, t1, t2⟩ := k6.cs
  dsimp only at t0 t1 t2
  clear hS b6 k6
  go_wp2_with (refine wpList_store_row rfl 25 (.tmp 4) (.tmp 39) rfl (w.heap.size + 1) (RkQ.cs ⟨gp, A1, 32, c1, V, qnk, cv⟩) rfl rfl 25 (RkQ.cs ⟨0, none, 0, 0, none, 0, 0⟩) HZ6.out (rk_sized _) rfl (rk_all _) ?_)
  have HQZ := Lib.hid (setRow_heap w6 (w.heap.size + 1) _ (RkQ.cs ⟨gp, A1, 32, c1, V, qnk, cv⟩) 25 _ HZ6.out)
  have z1 := HL4.out; have z3 := HB4.out.size
  have hS := HS.out
  have hso : ∀ y, w4.heap.size ≤ y → y < w6.heap.size → (w6.setRow (w.heap.size + 1) (RkQ.cs ⟨gp, A1, 32, c1, V, qnk, cv⟩)).heap[y]? = w6.heap[y]? := fun y hy _ => setRow_other w6 _ y _ (by omega)
  refine bodyPost_ret (v := .tuple #[.agg (RkQ.cs ⟨gp, A1, 32, c1, V, qnk, cv⟩), .slice A2 32 c2, .int .i64 0]) (results3 (p := 4) (u := 5) (v := 6) (ty := 25) (by kernel_rfl) _ _ (w.heap.size + 1) 25 (RkQ.cs ⟨gp, A1, 32, c1, V, qnk, cv⟩) (0, 0) _ rfl HQZ.out Tryd.underlying25 rfl (rk_sized _)) rfl ⟨⟨gp, A1, 32, c1, V, qnk, cv⟩, A2, 32, c2, rfl, ⟨by show gp = r'.gen + 1; rw [← HQG.out]; exact HGP.out.symm, txt_keep HX6.out hS.sin (by simp [World.setRow]) hso, hS.sin.mono fun y hy => by omega, ?_⟩, txt_keep HY6.out hS.kin (by simp [World.setRow]) hso, hS.kin.mono fun y hy => by omega, below_setRow HB6.out (by omega) _⟩
  exact (HO6.out.kds.kept (by simp [World.setRow]) hso).mono fun y _ hy => by omega
end Go.Proofs.YtkplkfokpniflaaDoor.Ra
