/- Walks: New, Next, Take. Written by tools/mk_rawalki.py. -/
import Derived.Test.YtkplkfokpniflaaDoorRaWalkH
namespace Go.Proofs.YtkplkfokpniflaaDoor.Ra
set_option linter.all false
open Go.RowKit
open Wr (Txt Any New bcells gt)

def newR (b : List Nat) : Rk := if b.length = 32 then ⟨0, b, []⟩ else zR
theorem one_zero (w : World) : ∃ W, w.alloc (.cells (RkQ.cs ⟨0, none, 0, 0, none, 0, 0⟩) 25) = W ∧ RkB ⟨0, none, 0, 0, none, 0, 0⟩ W w.heap.size ∧ Below w.heap.size w W :=
  ⟨_, rfl, RkB.new _ w, (Below.refl _ _).alloc (Nat.le_refl _) _⟩
set_option maxHeartbeats 2000000 in
set_option maxRecDepth 100000 in
theorem new_is (A : Option Addr) (b : List Nat) (n c : Nat) (w : World) (hA : Txt Any w A n c b) :
    Calls Tryd.prog 10 #[.slice A n c] w fun e w' => ∃ q, e = .returned (.agg (RkQ.cs q)) ∧ RkIs (fun b => w.heap.size ≤ b) w' q (newR b) ∧ Below w.heap.size w w' := by
  obtain ⟨W, hW, g1, hB⟩ := one_zero w
  have hl := hA.len
  have G1 := Lib.hid g1; have B1 := Lib.hid hB; have HA := Lib.hid (hA.below hB); have L1 := Lib.hid g1.lt
  dsimp only [RkQ.cs] at hW
  obtain ⟨s0, s1, s2⟩ := g1.cs
  clear g1 hB hA
  by_cases h : n = 32
  · subst h
    have e : newR b = ⟨0, b, []⟩ := if_pos hl
    rw [e]
    clear e
    go_enter Tryd.func10, Tryd.ntmps10
    go_wp2_with fail
    refine (clone_any A b 32 c W HA.out (by decide)).mono ?_
    rintro e' w2 ⟨A2, n2, c2, rfl, hX, hb⟩
    have HX := Lib.hid hX; have B2 := Lib.hid (B1.out.trans (hb.mono B1.out.size))
    have HZ : Hid (RkB ⟨0, none, 0, 0, none, 0, 0⟩ w2 w.heap.size) := Lib.hid (G1.out.below hb L1.out)
    clear hX hb s0 s1 s2 hW
    go_wp2_with (refine wpList_store_row rfl 25 (.tmp 2) (.tmp 9) rfl w.heap.size (RkQ.cs ⟨0, A2, n2, c2, none, 0, 0⟩) rfl rfl 25 (RkQ.cs ⟨0, none, 0, 0, none, 0, 0⟩) HZ.out (rk_sized _) rfl (rk_all _) ?_)
    have HQZ := Lib.hid (setRow_heap w2 w.heap.size _ (RkQ.cs ⟨0, A2, n2, c2, none, 0, 0⟩) 25 _ HZ.out)
    refine bodyPost_ret (v := .agg (RkQ.cs ⟨0, A2, n2, c2, none, 0, 0⟩)) (results_cell_row (p := 2) (ty := 25) (by kernel_rfl) _ _ w.heap.size 25 (RkQ.cs ⟨0, A2, n2, c2, none, 0, 0⟩) (0, 0) _ rfl HQZ.out Tryd.underlying25 rfl (rk_sized _)) rfl ⟨⟨0, A2, n2, c2, none, 0, 0⟩, rfl, ⟨rfl, ?_, (txt_inn HX.out).mono fun y hy => by have := hy.1; have := L1.out; omega, Kds.nil _ _⟩, below_setRow B2.out (Nat.le_refl _) _⟩
    exact txt_keep HX.out.any (txt_inn HX.out) (by simp [World.setRow]) fun y hy _ => setRow_other w2 _ y _ (by have := hy.1; have := L1.out; omega)
  · have e : newR b = zR := if_neg (by omega)
    rw [e]
    have y : ((n : Int) != 32) = true := by rw [bne_iff_ne]; omega
    clear e h hl
    go_enter Tryd.func10, Tryd.ntmps10
    go_wp2_with (refine wpList_store_row rfl 25 (.tmp 2) (.tmp 6) rfl w.heap.size (RkQ.cs ⟨0, none, 0, 0, none, 0, 0⟩) rfl rfl 25 (RkQ.cs ⟨0, none, 0, 0, none, 0, 0⟩) G1.out (rk_sized _) rfl (rk_all _) ?_)
    have HQZ := Lib.hid (setRow_heap W w.heap.size _ (RkQ.cs ⟨0, none, 0, 0, none, 0, 0⟩) 25 _ G1.out)
    refine bodyPost_ret (v := .agg (RkQ.cs ⟨0, none, 0, 0, none, 0, 0⟩)) (results_cell_row (p := 2) (ty := 25) (by kernel_rfl) _ _ w.heap.size 25 (RkQ.cs ⟨0, none, 0, 0, none, 0, 0⟩) (0, 0) _ rfl HQZ.out Tryd.underlying25 rfl (rk_sized _)) rfl ⟨zRQ, rfl, RkIs.zero _ _, below_setRow B1.out (Nat.le_refl _) _⟩

/-- what is told of a ratchet that is asked for its next key -/
def nextQ (r : Rk) : Rk × Int × List Nat × Int := if rightR r = false then (zR, 0, [], 1) else if r.gen = 1073741824 then (zR, 0, [], 2) else (nextR r, r.gen, ky r.sec r.gen, 0)
def Nexted (x : Rk × Int × List Nat × Int) (w : World) (e : Ending) (w' : World) : Prop :=
  ∃ q A n c, e = .returned (.tuple #[.agg (RkQ.cs q), .int .i64 x.2.1, .slice A n c, .int .i64 x.2.2.2]) ∧ RkIs (fun b => w.heap.size ≤ b) w' q x.1 ∧ Txt Any w' A n c x.2.2.1 ∧ Inn (fun b => w.heap.size ≤ b) A n ∧ Below w.heap.size w w'

set_option maxHeartbeats 4000000 in
set_option maxRecDepth 100000 in
theorem next_is (q : RkQ) (r : Rk) (w : World) (hT : Tabs w) (hq : RkIs Any w q r) :
    Calls Tryd.prog 17 #[.agg q.cs] w (Nexted (nextQ r) w) := by
  obtain ⟨W2, hW2, g1, g2, hB2⟩ := two_rks w q zRQ
  obtain ⟨b, hb⟩ : ∃ b, rightR r = b := ⟨_, rfl⟩
  have CR := Lib.hid (right_is q r b W2 (hq.below hB2) hb)
  have HT := Lib.hid hT; have HQ := Lib.hid hq
  have B2 := Lib.hid hB2; have G1 := Lib.hid g1; have G2 := Lib.hid g2
  have L1 := Lib.hid g1.lt; have L2 := Lib.hid g2.lt
  have hgg := hq.g
  have HQG := Lib.hid hgg
  obtain ⟨g, A, n, c, K, nk, ck⟩ := q
  dsimp only [RkQ.cs, zRQ] at *
  obtain ⟨s0, s1, s2⟩ := g1.cs
  dsimp only at s0 s1 s2
  clear hq g1 g2 hB2 hT
  cases b with
  | false =>
    have hx : nextQ r = (zR, 0, [], 1) := if_pos hb
    rw [hx]
    clear hx hb hgg
    go_enter Tryd.func17, Tryd.ntmps17
    go_wp2_with fail
    refine CR.out.mono ?_
    rintro e' w3 ⟨rfl, hb⟩
    have HB3 := Lib.hid (B2.out.trans (hb.mono B2.out.size)); have HZ3 := Lib.hid (G2.out.below hb L2.out)
    clear hb s0 s1 s2 hW2
    go_wp2_with (refine wpList_store_row rfl 25 (.tmp 2) (.tmp 11) rfl (w.heap.size + 1) (RkQ.cs ⟨0, none, 0, 0, none, 0, 0⟩) rfl rfl 25 (RkQ.cs ⟨0, none, 0, 0, none, 0, 0⟩) HZ3.out (rk_sized _) rfl (rk_all _) ?_)
    have HQZ := Lib.hid (setRow_heap w3 (w.heap.size + 1) _ (RkQ.cs ⟨0, none, 0, 0, none, 0, 0⟩) 25 _ HZ3.out)
    refine bodyPost_ret (v := .tuple #[.agg (RkQ.cs ⟨0, none, 0, 0, none, 0, 0⟩), .int .i64 0, .slice none 0 0, .int .i64 1]) (results4 (p := 2) (u := 3) (v := 4) (x := 5) (ty := 25) (by kernel_rfl) _ _ (w.heap.size + 1) 25 (RkQ.cs ⟨0, none, 0, 0, none, 0, 0⟩) (0, 0) _ rfl HQZ.out Tryd.underlying25 rfl (rk_sized _)) rfl ⟨zRQ, none, 0, 0, rfl, RkIs.zero _ _, Txt.nil _ _, fun h => absurd h (by decide), below_setRow HB3.out (by omega) _⟩
  | true =>
  have hr := (right_iff r).1 hb
  by_cases hg30 : r.gen = 1073741824
  · have hx : nextQ r = (zR, 0, [], 2) := by unfold nextQ; rw [if_neg (by rw [hb]; decide), if_pos hg30]
    rw [hx]
    obtain rfl : g = 1073741824 := hgg.trans hg30
    clear hx hb hgg hg30 hr
    go_enter Tryd.func17, Tryd.ntmps17
    go_wp2_with fail
    refine CR.out.mono ?_
    rintro e' w3 ⟨rfl, hb⟩
    have HB3 := Lib.hid (B2.out.trans (hb.mono B2.out.size)); have HZ3 := Lib.hid (G2.out.below hb L2.out)
    have HC3 := Lib.hid hb
    clear hb s0 s1 s2 hW2
    obtain ⟨s0, s1, s2⟩ := (G1.out.below HC3.out L1.out).cs
    dsimp only at s0 s1 s2
    go_wp2_with (refine wpList_store_row rfl 25 (.tmp 2) (.tmp 15) rfl (w.heap.size + 1) (RkQ.cs ⟨0, none, 0, 0, none, 0, 0⟩) rfl rfl 25 (RkQ.cs ⟨0, none, 0, 0, none, 0, 0⟩) HZ3.out (rk_sized _) rfl (rk_all _) ?_)
    have HQZ := Lib.hid (setRow_heap w3 (w.heap.size + 1) _ (RkQ.cs ⟨0, none, 0, 0, none, 0, 0⟩) 25 _ HZ3.out)
    refine bodyPost_ret (v := .tuple #[.agg (RkQ.cs ⟨0, none, 0, 0, none, 0, 0⟩), .int .i64 0, .slice none 0 0, .int .i64 2]) (results4 (p := 2) (u := 3) (v := 4) (x := 5) (ty := 25) (by kernel_rfl) _ _ (w.heap.size + 1) 25 (RkQ.cs ⟨0, none, 0, 0, none, 0, 0⟩) (0, 0) _ rfl HQZ.out Tryd.underlying25 rfl (rk_sized _)) rfl ⟨zRQ, none, 0, 0, rfl, RkIs.zero _ _, Txt.nil _ _, fun h => absurd h (by decide), below_setRow HB3.out (by omega) _⟩
  have hlt : r.gen < 1073741824 := by have := hr.hi; omega
  have hx : nextQ r = (nextR r, r.gen, ky r.sec r.gen, 0) := by unfold nextQ; rw [if_neg (by rw [hb]; decide), if_neg hg30]
  rw [hx]
  have CS := Lib.hid (fun W (hw : Below w.heap.size w W) => stepped_is ⟨g, A, n, c, K, nk, ck⟩ r W (HT.out.at hw) (HQ.out.below hw) hr hlt)
  obtain ⟨gp, hgp⟩ : ∃ x, g + 1 = x := ⟨_, rfl⟩
  have HGP := Lib.hid hgp
  dsimp only [RkQ.cs] at CS
  simp only [hgp] at CS
  have yg : (g == 1073741824) = false := by rw [beq_eq_false_iff_ne]; omega
  clear hx hb hgg hg30 hr hlt hgp
  go_enter Tryd.func17, Tryd.ntmps17
  go_wp2_with fail
  refine CR.out.mono ?_
  rintro e' w3 ⟨rfl, hb⟩
  have HB3 := Lib.hid (B2.out.trans (hb.mono B2.out.size)); have HC3 := Lib.hid hb
  clear hb s0 s1 s2 hW2
  obtain ⟨s0, s1, s2⟩ := (G1.out.below HC3.out L1.out).cs
  dsimp only at s0 s1 s2
  go_wp2_with fail
  refine (CS.out w3 HB3.out).mono ?_
  rintro e' w5 ⟨A1, c1, V, cv, A2, c2, rfl, hS⟩
  have HS := Lib.hid hS
  have b6 := (Below.refl w5.heap.size w5).alloc (Nat.le_refl _) (.cells (RkQ.cs ⟨gp, A1, 32, c1, V, nk, cv⟩) 25)
  have k6 := RkB.new ⟨gp, A1, 32, c1, V, nk, cv⟩ w5
  obtain ⟨w6, hw6⟩ : ∃ W, w5.alloc (.cells (RkQ.cs ⟨gp, A1, 32, c1, V, nk, cv⟩) 25) = W := ⟨_, rfl⟩
  obtain ⟨g6, hg6⟩ : ∃ g, w5.heap.size = g := ⟨_, rfl⟩
  rw [hw6] at b6 k6
  rw [hg6] at k6
  dsimp only [RkQ.cs] at hw6
  have HC6 : Hid (Below W2.heap.size W2 w6.drew) := Lib.hid (HC3.out.trans ((hS.bel.trans (b6.mono hS.bel.size)).mono HC3.out.size)).drew
  have HG6 : Hid (w5.heap.size = g6 ∧ W2.heap.size ≤ w3.heap.size ∧ w3.heap.size ≤ w5.heap.size) := Lib.hid ⟨hg6, HC3.out.size, hS.bel.size⟩
  have H6d : Hid (RkB ⟨gp, A1, 32, c1, V, nk, cv⟩ w6.drew g6) := Lib.hid (k6.below (Below.refl _ _).drew k6.lt)
  have H1d : Hid (RkB ⟨g, A, n, c, K, nk, ck⟩ w6.drew w.heap.size) := Lib.hid (G1.out.below HC6.out L1.out)
  have HZd : Hid (RkB ⟨0, none, 0, 0, none, 0, 0⟩ w6.drew (w.heap.size + 1)) := Lib.hid (G2.out.below HC6.out L2.out)
  have HL6 : Hid (g6 < w6.drew.heap.size) := Lib.hid H6d.out.lt
  have HL1 : Hid (w.heap.size < w6.drew.heap.size) := Lib.hid H1d.out.lt
  have HN1 : Hid (some w.heap.size ≠ some (w.heap.size + 1)) := Lib.hid (by intro e; injection e; omega)
  have HN6 : Hid (some g6 ≠ some (w.heap.size + 1)) := Lib.hid (by have := HG6.out; have := L2.out; intro e; injection e; omega)
  have HBd : Hid (Below w.heap.size w w6.drew) := Lib.hid (B2.out.trans (HC6.out.mono B2.out.size))
  have HO6 : Hid (OwnK (fun b => w3.heap.size ≤ b) w3.heap.size w6.drew (.slice V nk cv) nk r.kept) := Lib.hid (hS.own.below b6.drew)
  have HX6 : Hid (Txt Any w6.drew A1 32 c1 (nx r.sec r.gen)) := Lib.hid (hS.sec.below b6.drew)
  have HY6 : Hid (Txt Any w6.drew A2 32 c2 (ky r.sec r.gen)) := Lib.hid (hS.key.below b6.drew)
  clear hS b6 k6 s0 s1 s2
  go_wp2_with fail
  try rw [hw6]
  try rw [hg6]
  clear hw6 hg6
  try simp only [Act.put]
  refine Wr.region_calm ?_
  refine wp_region_any (by kernel_rfl) ?_
  change wpAny _ _ _ _ _ _ _ (World.drew w6)
  generalize World.drew w6 = wd at *
  have HSwd : Hid (wd.grownBy wd (some (w.heap.size + 1))) := Lib.hid (World.grownBy.refl _ _)
  refine wpAny_of_held (S := (fun W => wd.grownBy W (some (w.heap.size + 1)))) _ _ _ _ ?_
  refine wpAnyH_take (i := 0) (v := ?ve1) rfl (by kernel_rfl) (by kernel_rfl) (by kernel_rfl) (fun _ _ _ h => h) (Or.inl ⟨by rfl, ?ye1⟩) HSwd.out ?re1
  case ye1 => (intro w' hSw; obtain ⟨t0, t1, t2⟩ := RkB.cs ((hSw.block g6 HL6.out HN6.out).trans H6d.out); obtain ⟨s0, s1, s2⟩ := RkB.cs ((hSw.block w.heap.size HL1.out HN1.out).trans H1d.out); clear hSw; go_simp; try with_reducible rfl)
  simp only [List.getElem_toArray, List.getElem_cons_succ, List.getElem_cons_zero, Act.put, List.setIfInBounds_toArray, List.set_cons_zero, List.set_cons_succ]
  refine wpAnyH_take (i := 1) (v := ?ve2) rfl (by kernel_rfl) (by kernel_rfl) (by kernel_rfl) (fun _ _ _ h => h) (Or.inl ⟨by rfl, ?ye2⟩) HSwd.out ?re2
  case ye2 => (intro w' hSw; clear hSw; go_simp; try with_reducible rfl)
  simp only [List.getElem_toArray, List.getElem_cons_succ, List.getElem_cons_zero, Act.put, List.setIfInBounds_toArray, List.set_cons_zero, List.set_cons_succ]
  refine wpAnyH_take (i := 2) (v := ?ve3) rfl (by kernel_rfl) (by kernel_rfl) (by kernel_rfl) (fun _ _ _ h => h) (Or.inl ⟨by rfl, ?ye3⟩) HSwd.out ?re3
  case ye3 => (intro w' hSw; obtain ⟨t0, t1, t2⟩ := RkB.cs ((hSw.block g6 HL6.out HN6.out).trans H6d.out); obtain ⟨s0, s1, s2⟩ := RkB.cs ((hSw.block w.heap.size HL1.out HN1.out).trans H1d.out); clear hSw; go_simp; try with_reducible rfl)
  simp only [List.getElem_toArray, List.getElem_cons_succ, List.getElem_cons_zero, Act.put, List.setIfInBounds_toArray, List.set_cons_zero, List.set_cons_succ]
  refine wpAnyH_take (i := 3) (v := ?ve4) rfl (by kernel_rfl) (by kernel_rfl) (by kernel_rfl) (fun _ _ _ h => h) (Or.inl ⟨by rfl, ?ye4⟩) HSwd.out ?re4
  case ye4 => (intro w' hSw; clear hSw; go_simp; try with_reducible rfl)
  simp only [List.getElem_toArray, List.getElem_cons_succ, List.getElem_cons_zero, Act.put, List.setIfInBounds_toArray, List.set_cons_zero, List.set_cons_succ]
  refine wpAnyH_ready (rs := [4]) (by kernel_rfl) (by simp) ?_
  refine AllReadyH.cons rfl (fun K' hK => ?_) AllReadyH.nil
  simp only [List.getElem_toArray, List.getElem_cons_succ, List.getElem_cons_zero]
  rw [if_pos (by rfl)]
  refine wp_store_row 25 (.tmp 2) (.tmp 21) rfl (w.heap.size + 1) (RkQ.cs ⟨gp, A1, 32, c1, V, nk, cv⟩) rfl rfl 25 (RkQ.cs ⟨0, none, 0, 0, none, 0, 0⟩) HZd.out (rk_sized _) rfl (rk_all _) ?_
  have HQZ := Lib.hid (setRow_heap wd (w.heap.size + 1) _ (RkQ.cs ⟨gp, A1, 32, c1, V, nk, cv⟩) 25 _ HZd.out)
  have HSy : Hid (wd.grownBy (wd.setRow (w.heap.size + 1) (RkQ.cs ⟨gp, A1, 32, c1, V, nk, cv⟩)) (some (w.heap.size + 1))) := Lib.hid ⟨rfl, rfl, rfl, by simp [World.setRow], fun i hi hn => setRow_other wd _ i _ (by intro e; exact hn (by rw [e]))⟩
  refine hK.out _ _ HSy.out (fun _ => ?_)
  clear hK
  try simp only [List.getElem_toArray, List.getElem_cons_succ, List.getElem_cons_zero, Act.put, List.setIfInBounds_toArray, List.set_cons_zero, List.set_cons_succ]
  refine wpAnyH_take (i := 5) (v := ?ve5) rfl (by kernel_rfl) (by kernel_rfl) (by kernel_rfl) (fun _ _ _ h => h) (Or.inl ⟨by rfl, ?ye5⟩) HSy.out ?re5
  case ye5 => (intro w' hSw; clear hSw; go_simp; try with_reducible rfl)
  simp only [List.getElem_toArray, List.getElem_cons_succ, List.getElem_cons_zero, Act.put, List.setIfInBounds_toArray, List.set_cons_zero, List.set_cons_succ]
  refine wpAnyH_take (i := 6) (v := ?ve6) rfl (by kernel_rfl) (by kernel_rfl) (by kernel_rfl) (fun _ _ _ h => h) (Or.inl ⟨by rfl, ?ye6⟩) HSy.out ?re6
  case ye6 => (intro w' hSw; clear hSw; go_simp; try with_reducible rfl)
  simp only [List.getElem_toArray, List.getElem_cons_succ, List.getElem_cons_zero, Act.put, List.setIfInBounds_toArray, List.set_cons_zero, List.set_cons_succ]
  refine wpAnyH_take (i := 7) (v := ?ve7) rfl (by kernel_rfl) (by kernel_rfl) (by kernel_rfl) (fun _ _ _ h => h) (Or.inl ⟨by rfl, ?ye7⟩) HSy.out ?re7
  case ye7 => (intro w' hSw; clear hSw; go_simp; try with_reducible rfl)
  simp only [List.getElem_toArray, List.getElem_cons_succ, List.getElem_cons_zero, Act.put, List.setIfInBounds_toArray, List.set_cons_zero, List.set_cons_succ]
  refine wpAnyH_done (by kernel_rfl) ?_ _
  change Exit.then _ _ Exit.normal _ _
  go_wp2_with fail
  obtain rfl : g = r.gen := HQG.out
  refine bodyPost_ret (v := .tuple #[.agg (RkQ.cs ⟨gp, A1, 32, c1, V, nk, cv⟩), .int .i64 r.gen, .slice A2 32 c2, .int .i64 0]) (results4 (p := 2) (u := 3) (v := 4) (x := 5) (ty := 25) (by kernel_rfl) _ _ (w.heap.size + 1) 25 (RkQ.cs ⟨gp, A1, 32, c1, V, nk, cv⟩) (0, 0) _ rfl HQZ.out Tryd.underlying25 rfl (rk_sized _)) rfl ?_
  have z1 := HG6.out; have z2 := L2.out; have z3 := HB3.out.size
  have hS := HS.out
  have hso : ∀ y, w3.heap.size ≤ y → y < wd.heap.size → (wd.setRow (w.heap.size + 1) (RkQ.cs ⟨gp, A1, 32, c1, V, nk, cv⟩)).heap[y]? = wd.heap[y]? := fun y hy _ => setRow_other wd _ y _ (by omega)
  refine ⟨⟨gp, A1, 32, c1, V, nk, cv⟩, A2, 32, c2, rfl, ⟨HGP.out.symm, txt_keep HX6.out hS.sin (by simp [World.setRow]) hso, hS.sin.mono fun y hy => by omega, ?_⟩, txt_keep HY6.out hS.kin (by simp [World.setRow]) hso, hS.kin.mono fun y hy => by omega, below_setRow HBd.out (by omega) _⟩
  exact (HO6.out.kds.kept (by simp [World.setRow]) hso).mono fun y _ hy => by omega
end Go.Proofs.YtkplkfokpniflaaDoor.Ra
