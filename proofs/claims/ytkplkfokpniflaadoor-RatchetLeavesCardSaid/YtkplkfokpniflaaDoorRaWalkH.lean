/- Walks: takeKept. -/
import Derived.Test.YtkplkfokpniflaaDoorRaWalkG
namespace Go.Proofs.YtkplkfokpniflaaDoor.Ra
set_option linter.all false
open Go.RowKit
open Wr (Txt Any New bcells gt)

theorem three_news (w : World) (q p : RkQ) (x : Int) : ∃ W, ((w.alloc (.cells q.cs 25)).alloc (.cells #[.int .i64 x] 2)).alloc (.cells p.cs 25) = W ∧ RkB q W w.heap.size ∧ W.cell? ⟨w.heap.size + 1, 0, none⟩ = some (.int .i64 x) ∧ RkB p W (w.heap.size + 1 + 1) ∧ Below w.heap.size w W := by
  refine ⟨_, rfl, ?_, ?_, ?_, (((Below.refl _ _).alloc (Nat.le_refl _) _).alloc (by simp) _).alloc (by simp; omega) _⟩
  · exact (Below.heap_alloc _ _ _ (by simp; omega)).trans ((Below.heap_alloc _ _ _ (by simp)).trans (heap_alloc_last w _))
  · have h := heap_alloc_last (w.alloc (.cells q.cs 25)) (.cells #[.int .i64 x] 2)
    rw [World.size_alloc] at h
    exact cell_of_row _ _ 0 _ _ _ ((Below.heap_alloc _ _ _ (by simp)).trans h)
  · have := heap_alloc_last ((w.alloc (.cells q.cs 25)).alloc (.cells #[.int .i64 x] 2)) (.cells p.cs 25)
    rwa [World.size_alloc, World.size_alloc] at this
theorem OwnK.lit {S : Nat → Prop} {base : Nat} {w : World} {A : Option Addr} {n c : Nat} {ks : List Kd} (h : OwnK S base w (.slice A n c) n ks) (hn : 0 < n) : ∃ g, A = some ⟨g, 0, none⟩ := by
  obtain ⟨_, _, qs, _, h2, _⟩ := h
  rcases h2.2 with ⟨e, h0⟩ | ⟨g, c, cur, e, _⟩
  · omega
  · injection e with e; exact ⟨g, e⟩
/-- what is told of a number that is taken -/
def Taken (x : Rk × List Nat × Int) (w : World) (e : Ending) (w' : World) : Prop :=
  ∃ q A n c, e = .returned (.tuple #[.agg (RkQ.cs q), .slice A n c, .int .i64 x.2.2]) ∧ RkIs (fun b => w.heap.size ≤ b) w' q x.1 ∧ Txt Any w' A n c x.2.1 ∧ Inn (fun b => w.heap.size ≤ b) A n ∧ Below w.heap.size w w'
/-- what is told of a number that was passed by -/
def keptR (r : Rk) (g : Int) : Rk × List Nat × Int :=
  match at' g r.kept with
  | none => (zR, [], 171)
  | some i => (⟨r.gen, r.sec, r.kept.eraseIdx i⟩, (kd r.kept i).key, 0)

set_option maxHeartbeats 4000000 in
set_option maxRecDepth 100000 in
theorem takeKept_is (q : RkQ) (r : Rk) (gen : Int) (w : World) (hq : RkIs Any w q r) (hr : Right r) :
    Calls Tryd.prog 30 #[.agg q.cs, .int .i64 gen] w (Taken (keptR r gen) w) := by
  obtain ⟨W3, hW3, g1, c2, g3, hB3⟩ := three_news w q zRQ gen
  have CC := Lib.hid (fun W (hb : Below w.heap.size w W) => copied_is q r W (hq.below hb) (by rw [hr.sec]; omega) (fun k hk => by rw [(rise_keys hr.ris k hk).2.2]; omega) (by rw [← hq.kept.len]; have := hr.many; omega))
  have HKB := Lib.hid (fun W (hb : Below w.heap.size w W) => hq.kept.below hb)
  have HKL := Lib.hid hq.kept.len; have HM := Lib.hid hr.many; have HQG := Lib.hid hq.g
  have B3 := Lib.hid hB3; have G1 := Lib.hid g1; have G3 := Lib.hid g3
  have L1 := Lib.hid g1.lt; have L3 := Lib.hid g3.lt
  obtain ⟨z, hz⟩ : ∃ z : Int, (match at' gen r.kept with | none => -1 | some i => (i : Int)) = z := ⟨_, rfl⟩
  have CI := Lib.hid (indexFunc_is q.K q.nk q.ck r.kept (w.heap.size + 1) gen z W3 (hq.kept.below hB3) c2 hz)
  obtain ⟨g, A, n, c, K, nk, ck⟩ := q
  dsimp only [RkQ.cs, zRQ] at *
  obtain ⟨s0, s1, s2⟩ := g1.cs
  dsimp only at s0 s1 s2
  clear hq hr hB3 g1 g3 c2
  cases hat : at' gen r.kept with
  | none =>
    rw [hat] at hz
    dsimp only at hz
    subst hz
    have hx : keptR r gen = (zR, [], 171) := by unfold keptR; rw [hat]
    rw [hx]
    clear hat hx
    go_enter Tryd.func30, Tryd.ntmps30
    go_wp2_with fail
    refine CI.out.mono ?_
    rintro e' w4 ⟨rfl, hb⟩
    have HB4 := Lib.hid (B3.out.trans (hb.mono B3.out.size))
    have HZ4 : Hid (RkB ⟨0, none, 0, 0, none, 0, 0⟩ w4 (w.heap.size + 1 + 1)) := Lib.hid (G3.out.below hb L3.out)
    clear hb s0 s1 s2 hW3
    go_wp2_with (refine wpList_store_row rfl 25 (.tmp 4) (.tmp 16) rfl (w.heap.size + 1 + 1) (RkQ.cs ⟨0, none, 0, 0, none, 0, 0⟩) rfl rfl 25 (RkQ.cs ⟨0, none, 0, 0, none, 0, 0⟩) HZ4.out (rk_sized _) rfl (rk_all _) ?_)
    have HQZ := Lib.hid (setRow_heap w4 (w.heap.size + 1 + 1) _ (RkQ.cs ⟨0, none, 0, 0, none, 0, 0⟩) 25 _ HZ4.out)
    refine bodyPost_ret (v := .tuple #[.agg (RkQ.cs ⟨0, none, 0, 0, none, 0, 0⟩), .slice none 0 0, .int .i64 171]) (results3 (p := 4) (u := 5) (v := 6) (ty := 25) (by kernel_rfl) _ _ (w.heap.size + 1 + 1) 25 (RkQ.cs ⟨0, none, 0, 0, none, 0, 0⟩) (0, 0) _ rfl HQZ.out Tryd.underlying25 rfl (rk_sized _)) rfl ⟨zRQ, none, 0, 0, rfl, RkIs.zero _ _, Txt.nil _ _, fun h => absurd h (by decide), below_setRow HB4.out (by omega) _⟩
  | some i =>
    obtain ⟨hi1, -, -⟩ := at_some hat
    rw [hat] at hz
    dsimp only at hz
    subst hz
    have hx : keptR r gen = (⟨r.gen, r.sec, r.kept.eraseIdx i⟩, (kd r.kept i).key, 0) := by unfold keptR; rw [hat]
    rw [hx]
    have hin : i < nk := by have := HKL.out; omega
    have hi16 : i ≤ 16 := by have := HM.out; omega
    obtain ⟨jj, hjj⟩ : ∃ jj, jj = i + 1 := ⟨_, rfl⟩
    have y1 : (i : Int) + 1 = (jj : Int) := by omega
    have HJ := Lib.hid hjj
    clear hat hx hi1 hjj
    go_enter Tryd.func30, Tryd.ntmps30
    go_wp2_with fail
    refine CI.out.mono ?_
    rintro e' w4 ⟨rfl, hb⟩
    have HC4 := Lib.hid hb
    have HB4 := Lib.hid (B3.out.trans (hb.mono B3.out.size))
    have HZ4 : Hid (RkB ⟨0, none, 0, 0, none, 0, 0⟩ w4 (w.heap.size + 1 + 1)) := Lib.hid (G3.out.below hb L3.out)
    clear hb s0 s1 s2 hW3
    obtain ⟨s0, s1, s2⟩ := (G1.out.below HC4.out L1.out).cs
    dsimp only at s0 s1 s2
    go_wp2_with fail
    refine (CC.out w4 HB4.out).mono ?_
    rintro e' w5 ⟨A1, n1, c1, V, cv, rfl, hA, hAi, hO, hF, hb⟩
    obtain ⟨gb, rfl⟩ := hO.lit (by omega)
    have HO5 := Lib.hid hO; have HA5 := Lib.hid hA; have HAI := Lib.hid hAi; have HAF := Lib.hid hF
    have HB5 : Hid (Below w.heap.size w w5) := Lib.hid (HB4.out.trans (hb.mono HB4.out.size))
    have HZ5 := Lib.hid (HZ4.out.below hb HZ4.out.lt)
    have b6 := (Below.refl w5.heap.size w5).alloc (Nat.le_refl _) (.cells (RkQ.cs ⟨g, A1, n1, c1, some ⟨gb, 0, none⟩, nk, cv⟩) 25)
    have k6 := RkB.new ⟨g, A1, n1, c1, some ⟨gb, 0, none⟩, nk, cv⟩ w5
    obtain ⟨w6, hw6⟩ : ∃ W, w5.alloc (.cells (RkQ.cs ⟨g, A1, n1, c1, some ⟨gb, 0, none⟩, nk, cv⟩) 25) = W := ⟨_, rfl⟩
    obtain ⟨g8, hg8⟩ : ∃ g, w5.heap.size = g := ⟨_, rfl⟩
    rw [hw6] at b6 k6
    rw [hg8] at k6
    dsimp only [RkQ.cs] at hw6
    have HG8 : Hid (w5.heap.size = g8 ∧ w4.heap.size ≤ w5.heap.size ∧ w.heap.size + 1 + 1 < w4.heap.size) := Lib.hid ⟨hg8, hb.size, HZ4.out.lt⟩
    have HO6 : Hid (OwnK (fun y => w4.heap.size ≤ y ∧ y ≠ g8) w4.heap.size w6 (.slice (some ⟨gb, 0, none⟩) nk cv) nk r.kept) := Lib.hid ((HO5.out.mono fun y hy h => ⟨h, by omega⟩).below b6)
    have HA6 : Hid (Txt Any w6 A1 n1 c1 r.sec) := Lib.hid (HA5.out.below b6)
    have HAJ : Hid (Inn (fun y => w4.heap.size ≤ y ∧ y ≠ g8) A1 n1) := Lib.hid ((hAi.and (txt_in hA)).mono fun y hy => ⟨hy.1, by have := hy.2; omega⟩)
    have H6 := Lib.hid k6
    have HB6 : Hid (Below w.heap.size w w6) := Lib.hid (HB5.out.trans (b6.mono HB5.out.size))
    have HZ6 := Lib.hid (HZ5.out.below b6 HZ5.out.lt)
    obtain ⟨⟨qg, QA, qn, qc⟩, hat, his⟩ := HO6.out.kds.at i hin
    have HKF := Lib.hid (HO6.out.far i hin _ hat)
    have HKI := Lib.hid his
    obtain ⟨c0, c1'⟩ := hat.cells
    rw [addr_zero] at c0 c1'
    dsimp only at c0 c1'
    obtain ⟨t0, t1, t2⟩ := k6.cs
    dsimp only at t0 t1 t2
    have hnc : nk ≤ cv := HO5.out.kds.2.1
    have CD := Lib.hid (delete_is _ _ gb nk cv i jj r.kept w6 HO6.out hin HJ.out)
    obtain ⟨nm, hnm⟩ : ∃ x, nk - 1 = x := ⟨_, rfl⟩
    rw [hnm] at CD
    clear hA hAi hO hF hb b6 k6 hat his s0 s1 s2 hnm
    go_wp2_with fail
    refine CD.out.mono ?_
    rintro e' w7 ⟨rfl, hO7, hG7⟩
    have HO7 := Lib.hid hO7
    have HX7 : Hid (Txt Any w7 QA qn qc (kd r.kept i).key) := Lib.hid (txt_far HKI.out.key HKF.out hG7)
    have hfa : Far (some gb) A1 n1 := HAF.out
    have HA7 : Hid (Txt Any w7 A1 n1 c1 r.sec) := Lib.hid (txt_far HA6.out hfa hG7)
    have hgb := HO6.out.own gb rfl
    have H7 : Hid (RkB ⟨g, A1, n1, c1, some ⟨gb, 0, none⟩, nk, cv⟩ w7 g8) := Lib.hid ((hG7.block g8 H6.out.lt (by intro e; injection e with e; exact hgb.2 e.symm)).trans H6.out)
    have HB7 : Hid (Below w.heap.size w w7) := Lib.hid (HB6.out.trans (below_grown hG7 (by have := HG8.out; omega) HB6.out.size))
    have HZ7 : Hid (RkB ⟨0, none, 0, 0, none, 0, 0⟩ w7 (w.heap.size + 1 + 1)) := Lib.hid ((hG7.block _ HZ6.out.lt (by have := HG8.out; intro e; injection e with e; omega)).trans HZ6.out)
    clear hO7 hG7 hfa hgb c0 c1' t0 t1 t2 hw6
    obtain ⟨t0, t1, t2⟩ := H7.out.cs
    have f2 := H7.out.frozen 2
    dsimp only at t0 t1 t2
    obtain ⟨w8, hw8⟩ : ∃ W, w7.setCell ⟨g8, 2, none⟩ (.slice (some ⟨gb, 0, none⟩) nm cv) = W := ⟨_, rfl⟩
    have hg8' : w7.grownBy w8 (some g8) := by rw [← hw8]; exact grown_set (World.grownBy.refl _ _) 2 _
    have k8 : RkB ⟨g, A1, n1, c1, some ⟨gb, 0, none⟩, nm, cv⟩ w8 g8 := by rw [← hw8]; exact H7.out.set2
    have hne : ∀ y, (w4.heap.size ≤ y ∧ y ≠ g8) → y < w7.heap.size → w8.heap[y]? = w7.heap[y]? := fun y hy hlt => hg8'.block y hlt (by intro e; injection e with e; exact hy.2 e)
    have HI8 : Hid (RkIs (fun y => w4.heap.size ≤ y ∧ y ≠ g8) w8 ⟨g, A1, n1, c1, some ⟨gb, 0, none⟩, nm, cv⟩ ⟨r.gen, r.sec, r.kept.eraseIdx i⟩) := Lib.hid ⟨HQG.out, txt_keep HA7.out HAJ.out hg8'.size hne, HAJ.out, HO7.out.kds.kept hg8'.size hne⟩
    have HX8 : Hid (Txt Any w8 QA qn qc (kd r.kept i).key) := Lib.hid (txt_keep HX7.out HKI.out.inn hg8'.size hne)
    have HZ8 : Hid (RkB ⟨0, none, 0, 0, none, 0, 0⟩ w8 (w.heap.size + 1 + 1)) := Lib.hid ((hg8'.block _ HZ7.out.lt (by have := HG8.out; intro e; injection e with e; omega)).trans HZ7.out)
    have HB8 : Hid (Below w.heap.size w w8) := Lib.hid (HB7.out.trans (below_grown hg8' (by have := HG8.out; omega) HB7.out.size))
    obtain ⟨v0, v1, v2⟩ := k8.cs
    dsimp only at v0 v1 v2
    clear hg8' k8 hne
    go_wp2_with (refine wpList_store_row rfl 25 (.tmp 4) (.tmp 32) rfl (w.heap.size + 1 + 1) (RkQ.cs ⟨g, A1, n1, c1, some ⟨gb, 0, none⟩, nm, cv⟩) rfl rfl 25 (RkQ.cs ⟨0, none, 0, 0, none, 0, 0⟩) HZ8.out (rk_sized _) rfl (rk_all _) ?_)
    have HQZ := Lib.hid (setRow_heap w8 (w.heap.size + 1 + 1) _ (RkQ.cs ⟨g, A1, n1, c1, some ⟨gb, 0, none⟩, nm, cv⟩) 25 _ HZ8.out)
    refine bodyPost_ret (v := .tuple #[.agg (RkQ.cs ⟨g, A1, n1, c1, some ⟨gb, 0, none⟩, nm, cv⟩), .slice QA qn qc, .int .i64 0]) (results3 (p := 4) (u := 5) (v := 6) (ty := 25) (by kernel_rfl) _ _ (w.heap.size + 1 + 1) 25 (RkQ.cs ⟨g, A1, n1, c1, some ⟨gb, 0, none⟩, nm, cv⟩) (0, 0) _ rfl HQZ.out Tryd.underlying25 rfl (rk_sized _)) rfl ?_
    have z1 := HG8.out
    have hso : ∀ y, (w4.heap.size ≤ y ∧ y ≠ g8) → y < w8.heap.size → (w8.setRow (w.heap.size + 1 + 1) (RkQ.cs ⟨g, A1, n1, c1, some ⟨gb, 0, none⟩, nm, cv⟩)).heap[y]? = w8.heap[y]? := fun y hy _ => setRow_other w8 _ y _ (by omega)
    refine ⟨_, QA, qn, qc, rfl, (HI8.out.keep (by simp [World.setRow]) hso).mono fun y _ hy => by have := HB4.out.size; omega, txt_keep HX8.out HKI.out.inn (by simp [World.setRow]) hso, HKI.out.inn.mono fun y hy => by have := HB4.out.size; omega, below_setRow HB8.out (by omega) _⟩
end Go.Proofs.YtkplkfokpniflaaDoor.Ra
