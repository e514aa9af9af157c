/- Walks: stepped: a ratchet gone on by one. Written by tools/mk_rawalkd.py. -/
import Derived.Test.YtkplkfokpniflaaDoorRaWalkC
namespace Go.Proofs.YtkplkfokpniflaaDoor.Ra
set_option linter.all false
open Go.RowKit
open Wr (Txt Any New bcells gt)

theorem results2 {P : Program} {fn : Func} {p u : Tmp} {ty : TypeId} (h : fn.results = #[.cell p ty, .tmp u]) (tmps : Array Value) (w : World) (g : Nat) (t : TypeId) (cs : Array Value) (fr : Nat × Nat) (d : TypeDesc)
    (hp : tmps.getD p undef = .pointer (some ⟨g, 0, none⟩)) (hg : w.heap[g]? = some (.cells cs t fr))
    (hu : P.underlying ty = some d) (hd : (match d with | .struct _ | .array _ _ => true | _ => false) = true) (hi : (P.info? ty).map (·.size) = some cs.size) :
    (results fn tmps).run P w = .ok (.tuple #[.agg cs, tmps.getD u undef]) w := by
  have hp' : tmps[p]?.getD undef = .pointer (some ⟨g, 0, none⟩) := by simpa using hp
  unfold results
  simp only [h]
  simp [Sem.run_bind, hp', asAddr, run_loadVar_row w g t ty cs fr d hg hu hd hi]
theorem results3 {P : Program} {fn : Func} {p u v : Tmp} {ty : TypeId} (h : fn.results = #[.cell p ty, .tmp u, .tmp v]) (tmps : Array Value) (w : World) (g : Nat) (t : TypeId) (cs : Array Value) (fr : Nat × Nat) (d : TypeDesc)
    (hp : tmps.getD p undef = .pointer (some ⟨g, 0, none⟩)) (hg : w.heap[g]? = some (.cells cs t fr))
    (hu : P.underlying ty = some d) (hd : (match d with | .struct _ | .array _ _ => true | _ => false) = true) (hi : (P.info? ty).map (·.size) = some cs.size) :
    (results fn tmps).run P w = .ok (.tuple #[.agg cs, tmps.getD u undef, tmps.getD v undef]) w := by
  have hp' : tmps[p]?.getD undef = .pointer (some ⟨g, 0, none⟩) := by simpa using hp
  unfold results
  simp only [h]
  simp [Sem.run_bind, hp', asAddr, run_loadVar_row w g t ty cs fr d hg hu hd hi]
theorem results4 {P : Program} {fn : Func} {p u v x : Tmp} {ty : TypeId} (h : fn.results = #[.cell p ty, .tmp u, .tmp v, .tmp x]) (tmps : Array Value) (w : World) (g : Nat) (t : TypeId) (cs : Array Value) (fr : Nat × Nat) (d : TypeDesc)
    (hp : tmps.getD p undef = .pointer (some ⟨g, 0, none⟩)) (hg : w.heap[g]? = some (.cells cs t fr))
    (hu : P.underlying ty = some d) (hd : (match d with | .struct _ | .array _ _ => true | _ => false) = true) (hi : (P.info? ty).map (·.size) = some cs.size) :
    (results fn tmps).run P w = .ok (.tuple #[.agg cs, tmps.getD u undef, tmps.getD v undef, tmps.getD x undef]) w := by
  have hp' : tmps[p]?.getD undef = .pointer (some ⟨g, 0, none⟩) := by simpa using hp
  unfold results
  simp only [h]
  simp [Sem.run_bind, hp', asAddr, run_loadVar_row w g t ty cs fr d hg hu hd hi]

/-- what a step tells: the ratchet and the key -/
structure Step (w : World) (q : RkQ) (r : Rk) (w' : World) (A1 : Option Addr) (c1 : Nat) (K : Option Addr) (ck : Nat) (A2 : Option Addr) (c2 : Nat) : Prop where
  sec : Txt Any w' A1 32 c1 (nx r.sec r.gen)
  sin : Inn (fun b => w.heap.size ≤ b) A1 32
  sfar : Far (Value.slice K q.nk ck).ownBlock A1 32
  own : OwnK (fun b => w.heap.size ≤ b) w.heap.size w' (.slice K q.nk ck) q.nk r.kept
  key : Txt Any w' A2 32 c2 (ky r.sec r.gen)
  kin : Inn (fun b => w.heap.size ≤ b) A2 32
  kfar : Far (Value.slice K q.nk ck).ownBlock A2 32
  bel : Below w.heap.size w w'

set_option maxHeartbeats 4000000 in
set_option maxRecDepth 100000 in
theorem stepped_is (q : RkQ) (r : Rk) (w : World) (hT : Tabs w) (hq : RkIs Any w q r) (hr : Right r) (hg : r.gen < 1073741824) :
    Calls Tryd.prog 28 #[.agg q.cs] w fun e w' => ∃ A1 c1 K ck A2 c2, e = .returned (.tuple #[.agg (RkQ.cs ⟨q.g + 1, A1, 32, c1, K, q.nk, ck⟩), .slice A2 32 c2]) ∧ Step w q r w' A1 c1 K ck A2 c2 := by
  obtain ⟨W2, hW2, g1, g2, hB2⟩ := two_rks w q zRQ
  have hgg := hq.g; have hlo := hr.lo
  have CC := Lib.hid (fun W (hb : Below w.heap.size w W) => copied_is q r W (hq.below hb) (by rw [hr.sec]; omega) (fun k hk => by rw [(rise_keys hr.ris k hk).2.2]; omega) (by rw [← hq.kept.len]; have := hr.many; omega))
  have HSEC := Lib.hid hq.sec; have HT := Lib.hid hT
  have hsl := hq.sec.len; rw [hr.sec] at hsl
  obtain ⟨g, A, n, c, KK, nk, cc⟩ := q
  obtain ⟨rg, sec, ks⟩ := r
  dsimp only [RkQ.cs, zRQ] at *
  subst hgg hsl
  have hg0 : 0 ≤ g := hlo
  have G1 := Lib.hid g1; have G2 := Lib.hid g2; have B2 := Lib.hid hB2
  have L1 := Lib.hid g1.lt; have L2 := Lib.hid g2.lt
  obtain ⟨gp, hgp⟩ : ∃ x, g + 1 = x := ⟨_, rfl⟩
  rw [hgp]
  obtain ⟨s0, s1, s2⟩ := g1.cs
  clear hq hr g1 g2 hB2 hT hlo
  go_enter Tryd.func28, Tryd.ntmps28
  go_wp2_with fail
  refine (Wr.number_any g 4 W2 (by omega)).mono ?_
  rintro e' w1 ⟨N, nn, cn, rfl, hX, hb⟩
  have HN1 : Hid (Txt Any w1 N nn cn (nb g)) := Lib.hid hX.any
  have HC1 := Lib.hid hb
  clear hX hb s0 s1 s2 hW2
  obtain ⟨s0, s1, s2⟩ := (G1.out.below HC1.out L1.out).cs
  go_wp2_with fail
  refine (CC.out w1 (B2.out.trans (HC1.out.mono B2.out.size))).mono ?_
  rintro e' w2 ⟨A1, n1, c1, K, ck, rfl, hA, hAi, hO, hF, hb⟩
  have HC2 := Lib.hid (HC1.out.trans (hb.mono HC1.out.size)); have HO2 := Lib.hid hO; have HN2 := Lib.hid (HN1.out.below hb)
  have HS1 := Lib.hid (show W2.heap.size ≤ w1.heap.size from HC1.out.size)
  clear s0 s1 s2 hA hAi hO hF hb
  have b3 := (Below.refl w2.heap.size w2).alloc (Nat.le_refl _) (.cells (RkQ.cs ⟨g, A1, n1, c1, K, nk, ck⟩) 25)
  have k3 := RkB.new ⟨g, A1, n1, c1, K, nk, ck⟩ w2
  obtain ⟨w3, hw3⟩ : ∃ W, w2.alloc (.cells (RkQ.cs ⟨g, A1, n1, c1, K, nk, ck⟩) 25) = W := ⟨_, rfl⟩
  obtain ⟨g3, hg3⟩ : ∃ g, w2.heap.size = g := ⟨_, rfl⟩
  rw [hw3] at b3 k3
  rw [hg3] at k3
  dsimp only [RkQ.cs] at hw3
  have HC3 := Lib.hid (HC2.out.trans (b3.mono HC2.out.size)); have HO3 := Lib.hid (HO2.out.below b3); have HN3' := Lib.hid (HN2.out.below b3)
  have HG3 : Hid (w2.heap.size = g3 ∧ w2.heap.size ≤ w3.heap.size ∧ W2.heap.size ≤ w2.heap.size) := Lib.hid ⟨hg3, b3.size, HC2.out.size⟩
  have H3 := Lib.hid k3
  obtain ⟨t0, t1, t2⟩ := k3.cs
  have f0 := k3.frozen 0
  obtain ⟨w4, hw4⟩ : ∃ W, w3.setCell ⟨g3, 0, none⟩ (.int .i64 gp) = W := ⟨_, rfl⟩
  have hb4 : Below g3 w3 w4 := by rw [← hw4]; exact (Below.refl g3 w3).setCell (p := ⟨g3, 0, none⟩) (Nat.le_refl _) _
  have k4 : RkB ⟨gp, A1, n1, c1, K, nk, ck⟩ w4 g3 := by rw [← hw4]; exact k3.set0 gp
  have HB4 := Lib.hid hb4; have H4 := Lib.hid k4
  have HC4 : Hid (Below W2.heap.size W2 w4) := Lib.hid (HC3.out.trans (hb4.mono (by have := HG3.out; omega)))
  have HN4 : Hid (Txt Any w4 N nn cn (nb g)) := Lib.hid (txt_keep HN2.out (txt_in HN2.out) (Nat.le_trans HG3.out.2.1 hb4.size) fun y hy hlt => (hb4.block y (by rw [← HG3.out.1]; exact hy)).trans (b3.block y hlt))
  have HO4 : Hid (OwnK (fun b => w1.heap.size ≤ b ∧ b < g3) w1.heap.size w4 (.slice K nk ck) nk ks) := Lib.hid (by
    have h := (HO2.out.mono (S' := fun b => w1.heap.size ≤ b ∧ b < g3) fun y hy h => ⟨h, by rw [← HG3.out.1]; exact hy⟩).keep (w' := w4) (Nat.le_trans HG3.out.2.1 hb4.size) fun y hy hlt => (hb4.block y hy.2).trans (b3.block y hlt)
    exact h)
  obtain ⟨u0, u1, u2⟩ := (G1.out.below HC4.out L1.out).cs
  obtain ⟨v0, v1, v2⟩ := k4.cs
  have f1 := k4.frozen 1
  clear b3 k3 k4 hb4
  go_wp2_with fail
  have HBX := Lib.hid (show Below w.heap.size w w4 from B2.out.trans (HC4.out.mono B2.out.size))
  refine (label_any ⟨#[110, 101, 120, 116]⟩ A N sec (nb g) 32 c nn cn 32 w4 (HT.out.at HBX.out) (HSEC.out.below HBX.out) (by omega) HN4.out).mono ?_
  rintro e' w5 ⟨A2, m2, c2, rfl, hX, hb⟩
  obtain rfl : m2 = 32 := by rw [← hX.len]; exact nx_len _ _
  have HX5 : Hid (Txt Any w5 A2 32 c2 (nx sec g)) := Lib.hid hX.any
  have HI5 : Hid (Inn (fun y => w4.heap.size ≤ y) A2 32) := Lib.hid ((txt_inn hX).mono fun y h => h.1)
  have HL4 : Hid (g3 < w4.heap.size) := Lib.hid H4.out.lt
  have H5 : Hid (RkB ⟨gp, A1, n1, c1, K, nk, ck⟩ w5 g3) := Lib.hid (H4.out.below hb HL4.out)
  have HC5 : Hid (Below W2.heap.size W2 w5) := Lib.hid (HC4.out.trans (hb.mono HC4.out.size))
  have HO5 := Lib.hid (HO4.out.below hb); have HN5 := Lib.hid (HN4.out.below hb)
  clear hX hb t0 t1 t2 u0 u1 u2 v0 v1 v2 f0 f1 hw3 hw4
  obtain ⟨t0, t1, t2⟩ := H5.out.cs
  have f1 := H5.out.frozen 1
  obtain ⟨w6, hw6⟩ : ∃ W, w5.setCell ⟨g3, 1, none⟩ (.slice A2 32 c2) = W := ⟨_, rfl⟩
  have hb6 : Below g3 w5 w6 := by rw [← hw6]; exact (Below.refl g3 w5).setCell (p := ⟨g3, 1, none⟩) (Nat.le_refl _) _
  have hg6 : w5.grownBy w6 (some g3) := by rw [← hw6]; exact grown_set (World.grownBy.refl _ _) 1 _
  have k6 : RkB ⟨gp, A2, 32, c2, K, nk, ck⟩ w6 g3 := by rw [← hw6]; exact H5.out.set1
  have HC6 : Hid (Below W2.heap.size W2 w6.drew) := Lib.hid (HC5.out.trans (hb6.mono (by have := HG3.out; omega))).drew
  have H3d : Hid (RkB ⟨gp, A2, 32, c2, K, nk, ck⟩ w6.drew g3) := Lib.hid (k6.below (Below.refl _ _).drew k6.lt)
  have HL3 : Hid (g3 < w6.drew.heap.size) := Lib.hid H3d.out.lt
  have H1d : Hid (RkB ⟨g, A, 32, c, KK, nk, cc⟩ w6.drew w.heap.size) := Lib.hid (G1.out.below HC6.out L1.out)
  have HZd : Hid (RkB ⟨0, none, 0, 0, none, 0, 0⟩ w6.drew (w.heap.size + 1)) := Lib.hid (G2.out.below HC6.out L2.out)
  have HL1 : Hid (w.heap.size < w6.drew.heap.size) := Lib.hid H1d.out.lt
  have HN1 : Hid (some w.heap.size ≠ some (w.heap.size + 1)) := Lib.hid (by intro e; injection e; omega)
  have HN3 : Hid (some g3 ≠ some (w.heap.size + 1)) := Lib.hid (by have := HG3.out; have := L2.out; intro e; injection e; omega)
  have HBd : Hid (Below w.heap.size w w6.drew) := Lib.hid (B2.out.trans (HC6.out.mono B2.out.size))
  have HTd : Hid (Tabs w6.drew) := Lib.hid (HT.out.at HBd.out)
  have HAd : Hid (Txt Any w6.drew A 32 c sec) := Lib.hid (HSEC.out.below HBd.out)
  have HNd : Hid (Txt Any w6.drew N nn cn (nb g)) := Lib.hid ((txt_far HN5.out (far_new HN2.out g3 (by rw [HG3.out.1]; exact Nat.le_refl _)) hg6).below (Below.refl _ _).drew)
  have HO6 : Hid (OwnK (fun b => w1.heap.size ≤ b ∧ b < g3) w1.heap.size w6.drew (.slice K nk ck) nk ks) := Lib.hid ((HO5.out.keep hg6.size fun y hy hlt => hb6.block y hy.2).below (Below.refl _ _).drew)
  have HX6 : Hid (Txt Any w6.drew A2 32 c2 (nx sec g)) := Lib.hid ((txt_far HX5.out (fun hn ad e e' => by have h1 := HI5.out hn ad e; have h2 := HL4.out; injection e' with e'; omega) hg6).below (Below.refl _ _).drew)
  clear hb6 hg6 k6
  go_wp2_with fail
  try rw [hw6]
  clear t0 t1 t2 f1 hw6
  try simp only [Act.put]
  refine Wr.region_calm ?_
  refine wp_region_any (by kernel_rfl) ?_
  change wpAny _ _ _ _ _ _ _ (World.drew w6)
  generalize World.drew w6 = wd at *
  have HSwd : Hid (wd.grownBy wd (some (w.heap.size + 1))) := Lib.hid (World.grownBy.refl _ _)
  refine wpAny_of_held (S := (fun W => wd.grownBy W (some (w.heap.size + 1)))) _ _ _ _ ?_
  refine wpAnyH_take (i := 0) (v := ?ve1) rfl (by kernel_rfl) (by kernel_rfl) (by kernel_rfl) (fun _ _ _ h => h) (Or.inl ⟨by rfl, ?ye1⟩) HSwd.out ?re1
  case ye1 => (intro w' hSw; obtain ⟨t0, t1, t2⟩ := RkB.cs ((hSw.block g3 HL3.out HN3.out).trans H3d.out); obtain ⟨s0, s1, s2⟩ := RkB.cs ((hSw.block w.heap.size HL1.out HN1.out).trans H1d.out); clear hSw; go_simp; try with_reducible rfl)
  simp only [List.getElem_toArray, List.getElem_cons_succ, List.getElem_cons_zero, Act.put, List.setIfInBounds_toArray, List.set_cons_zero, List.set_cons_succ]
  refine wpAnyH_take (i := 1) (v := ?ve2) rfl (by kernel_rfl) (by kernel_rfl) (by kernel_rfl) (fun _ _ _ h => h) (Or.inl ⟨by rfl, ?ye2⟩) HSwd.out ?re2
  case ye2 => (intro w' hSw; clear hSw; go_simp; try with_reducible rfl)
  simp only [List.getElem_toArray, List.getElem_cons_succ, List.getElem_cons_zero, Act.put, List.setIfInBounds_toArray, List.set_cons_zero, List.set_cons_succ]
  refine wpAnyH_take (i := 2) (v := ?ve3) rfl (by kernel_rfl) (by kernel_rfl) (by kernel_rfl) (fun _ _ _ h => h) (Or.inl ⟨by rfl, ?ye3⟩) HSwd.out ?re3
  case ye3 => (intro w' hSw; obtain ⟨t0, t1, t2⟩ := RkB.cs ((hSw.block g3 HL3.out HN3.out).trans H3d.out); obtain ⟨s0, s1, s2⟩ := RkB.cs ((hSw.block w.heap.size HL1.out HN1.out).trans H1d.out); clear hSw; go_simp; try with_reducible rfl)
  simp only [List.getElem_toArray, List.getElem_cons_succ, List.getElem_cons_zero, Act.put, List.setIfInBounds_toArray, List.set_cons_zero, List.set_cons_succ]
  refine wpAnyH_take (i := 3) (v := ?ve4) rfl (by kernel_rfl) (by kernel_rfl) (by kernel_rfl) (fun _ _ _ h => h) (Or.inl ⟨by rfl, ?ye4⟩) HSwd.out ?re4
  case ye4 => (intro w' hSw; clear hSw; go_simp; try with_reducible rfl)
  simp only [List.getElem_toArray, List.getElem_cons_succ, List.getElem_cons_zero, Act.put, List.setIfInBounds_toArray, List.set_cons_zero, List.set_cons_succ]
  refine wpAnyH_ready (rs := [4]) (by kernel_rfl) (by simp) ?_
  refine AllReadyH.cons rfl (fun K' hK => ?_) AllReadyH.nil
  simp only [List.getElem_toArray, List.getElem_cons_succ, List.getElem_cons_zero]
  go_simp
  refine (label_any ⟨#[107, 101, 121]⟩ A N sec (nb g) 32 c nn cn 32 wd HTd.out HAd.out (by omega) HNd.out).mono ?_
  rintro e' wk ⟨A3, m3, c3, rfl, hX, hb⟩
  obtain rfl : m3 = 32 := by rw [← hX.len]; exact ky_len _ _
  have HX3 := Lib.hid hX.any; have HI3 := Lib.hid (txt_inn hX)
  have HSk : Hid (wd.grownBy wk (some (w.heap.size + 1))) := Lib.hid ⟨hb.os, hb.tape, hb.output, hb.size, fun i hi _ => hb.block i hi⟩
  have HBk := Lib.hid hb
  have HZk : Hid (RkB ⟨0, none, 0, 0, none, 0, 0⟩ wk (w.heap.size + 1)) := Lib.hid (HZd.out.below hb HZd.out.lt)
  clear hX hb
  refine hK.out _ _ HSk.out (fun _ => ?_)
  clear hK
  try simp only [List.getElem_toArray, List.getElem_cons_succ, List.getElem_cons_zero, Act.put, List.setIfInBounds_toArray, List.set_cons_zero, List.set_cons_succ]
  refine wpAnyH_ready (rs := [5]) (by kernel_rfl) (by simp) ?_
  refine AllReadyH.cons rfl (fun K' hK => ?_) AllReadyH.nil
  simp only [List.getElem_toArray, List.getElem_cons_succ, List.getElem_cons_zero]
  rw [if_pos (by rfl)]
  refine wp_store_row 25 (.tmp 2) (.tmp 20) rfl (w.heap.size + 1) (RkQ.cs ⟨gp, A2, 32, c2, K, nk, ck⟩) rfl rfl 25 (RkQ.cs ⟨0, none, 0, 0, none, 0, 0⟩) HZk.out (rk_sized _) rfl (rk_all _) ?_
  have HQZ := Lib.hid (setRow_heap wk (w.heap.size + 1) _ (RkQ.cs ⟨gp, A2, 32, c2, K, nk, ck⟩) 25 _ HZk.out)
  have HSy : Hid (wd.grownBy (wk.setRow (w.heap.size + 1) (RkQ.cs ⟨gp, A2, 32, c2, K, nk, ck⟩)) (some (w.heap.size + 1))) := Lib.hid ⟨HSk.out.os, HSk.out.tape, HSk.out.output, by simpa [World.setRow] using HSk.out.size, fun i hi hn => (setRow_other wk _ i _ (by intro e; exact hn (by rw [e]))).trans (HSk.out.block i hi hn)⟩
  refine hK.out _ _ HSy.out (fun _ => ?_)
  clear hK
  try simp only [List.getElem_toArray, List.getElem_cons_succ, List.getElem_cons_zero, Act.put, List.setIfInBounds_toArray, List.set_cons_zero, List.set_cons_succ]
  refine wpAnyH_take (i := 6) (v := ?ve5) rfl (by kernel_rfl) (by kernel_rfl) (by kernel_rfl) (fun _ _ _ h => h) (Or.inl ⟨by rfl, ?ye5⟩) HSy.out ?re5
  case ye5 => (intro w' hSw; clear hSw; go_simp; try with_reducible rfl)
  simp only [List.getElem_toArray, List.getElem_cons_succ, List.getElem_cons_zero, Act.put, List.setIfInBounds_toArray, List.set_cons_zero, List.set_cons_succ]
  refine wpAnyH_done (by kernel_rfl) ?_ _
  change Exit.then _ _ Exit.normal _ _
  go_wp2_with fail
  refine bodyPost_ret (v := .tuple #[.agg (RkQ.cs ⟨gp, A2, 32, c2, K, nk, ck⟩), .slice A3 32 c3]) (results2 (p := 2) (u := 3) (ty := 25) (by kernel_rfl) _ _ (w.heap.size + 1) 25 (RkQ.cs ⟨gp, A2, 32, c2, K, nk, ck⟩) (0, 0) _ rfl HQZ.out Tryd.underlying25 rfl (rk_sized _)) rfl ⟨A2, c2, K, ck, A3, c3, rfl, ?_⟩
  have z1 := L2.out; have z2 := HC4.out.size; have z3 := HS1.out; have z4 := HG3.out; have z5 := HL4.out; have z6 := HL3.out; have z7 := HBd.out.size; have z8 := HC2.out.size
  have hown := HO6.out.own
  refine ⟨?_, HI5.out.mono fun y hy => by omega, far_older HI5.out (fun z hz => by have := (hown z hz).2; omega), ?_, ?_, HI3.out.mono fun y hy => by have := hy.1; omega, far_older (HI3.out.mono fun y hy => hy.1) (fun z hz => by have := (hown z hz).2; omega), ?_⟩
  · exact txt_far HX6.out (fun hn ad e e' => by have h1 := HI5.out hn ad e; injection e' with e'; omega) HSy.out
  · exact ((HO6.out.keep HSy.out.size fun y hy hlt => HSy.out.block y hlt (by intro e; injection e with e; omega)).mono fun y _ hy => by omega).base (by omega)
  · exact txt_keep HX3.out HI3.out (by simp [World.setRow]) fun y hy _ => setRow_other wk _ y _ (by have := hy.1; omega)
  · exact below_setRow (HBd.out.trans (HBk.out.mono z7)) (by omega) _
end Go.Proofs.YtkplkfokpniflaaDoor.Ra
