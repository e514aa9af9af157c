/- Walks: Renew and Remove, where they change the tree. -/
import Derived.Test.YtakglldffpnlaaaGreatDoorRtWalkV
import Derived.Test.YtakglldffpnlaaaGreatDoorRtM4
namespace Go.Proofs.YtakglldffpnlaaaGreatDoor.Rt
set_option linter.all false
open Go.RowKit
open Wr (Txt Any New)

theorem results2 {P : Program} {fn : Func} {p u : Tmp} {ty : TypeId} (h : fn.results = #[.cell p ty, .tmp u]) (tmps : Array Value) (w : World) (g : Nat) (t : TypeId) (cs : Array Value) (fr : Nat × Nat) (d : TypeDesc)
    (hp : tmps.getD p undef = .pointer (some ⟨g, 0, none⟩)) (hg : w.heap[g]? = some (.cells cs t fr))
    (hu : P.underlying ty = some d) (hd : (match d with | .struct _ | .array _ _ => true | _ => false) = true) (hi : (P.info? ty).map (·.size) = some cs.size) :
    (results fn tmps).run P w = .ok (.tuple #[.agg cs, tmps.getD u undef]) w := by
  have hp' : tmps[p]?.getD undef = .pointer (some ⟨g, 0, none⟩) := by simpa using hp
  simp [results, h, hp', asAddr, run_loadVar_row w g t ty cs fr d hg hu hd hi]

set_option maxHeartbeats 4000000 in
set_option maxRecDepth 100000 in
theorem renew_yesS (S0 : Nat → Prop) (d : Nat) (A : Option Addr) (n c : Nat) (ns : List Nd) (q : NdQ) (nl : Nd) (j : Nat) (w : World) (hS0 : ∀ b, S0 b → b < w.heap.size) (hfN : ∀ ad, A = some ad → ∀ j q, j < n → NdAt w (ad.add (j * 6)) q → NdFar S0 q) (hfQ : NdFar S0 q) (hN : Nodes Any Any w A n c ns) (hq : NdIs Any w q nl) (hT : Sp.Tab w) (hr : Right ns d) (hl : LeafR nl) (hj : There ns d j) :
    Calls Tryz.prog 11 #[.agg #[.int .i64 d, .slice A n c], .int .i64 j, .agg q.cs] w fun e w' => ∃ g, e = .returned (.tuple #[.agg #[.int .i64 d, .slice (some ⟨g, 0, none⟩) (2 ^ (d + 1) - 1) (2 ^ (d + 1) - 1)], .int .i64 0]) ∧ (∃ bs, OwnN S0 w' bs g (2 ^ (d + 1) - 1) (2 ^ (d + 1) - 1) (renF ns d j nl)) ∧ w.heap.size ≤ g ∧ Below w.heap.size w w' := by
  have HFN := Lib.hid (fun W (hb : Below w.heap.size w W) => hN.farT hfN hb)
  have HFQ := Lib.hid hfQ; have HS0 := Lib.hid hS0
  have hd6 := hr.deep
  have hjd : j < 2 ^ d := by have := hj.2.1; rw [pow_eq] at this; omega
  have hnn : n = 2 ^ (d + 1) - 1 := by rw [← hr.len, hN.len]
  obtain ⟨W0, hW0, hI, hz⟩ := AdI.new d A n c q w
  have HI := Lib.hid hI
  obtain ⟨t0, t1⟩ := hI.tr.cs
  obtain ⟨u0, u1, u2, u3, u4, u5⟩ := hI.lf.cs
  have HN := Lib.hid hN; have HQ := Lib.hid hq
  have C1 := Lib.hid (right_is d A n c ns true W0 (hN.below hI.bl) (hT.below hI.bl) (by simp; exact ⟨d, rfl, hr⟩))
  have C2 := Lib.hid fun w => leaf_is q.k q.A1 q.n1 q.c1 q.A2 q.n2 q.c2 q.A3 q.n3 q.c3 q.A4 q.n4 q.c4 q.A5 q.n5 q.c5 true w ((leafR_iff hq).2 hl)
  have C3 := Lib.hid (fun W (hb : Below w.heap.size w W) => isThere_is d A n c ns j true W (by omega) hnn (hN.below hb) (by simp [hj]))
  have C4 := Lib.hid (fun W (hb : Below w.heap.size w W) => replaced_isS S0 d A n c ns q nl j W (fun b h => Nat.lt_of_lt_of_le (HS0.out b h) hb.size) (HFN.out W hb) HFQ.out (hN.below hb) (hq.below hb) hr hjd)
  obtain ⟨k, A1, n1, c1, A2, n2, c2, A3, n3, c3, A4, n4, c4, A5, n5, c5⟩ := q
  dsimp only [NdQ.cs] at *
  obtain ⟨N, hNe⟩ : ∃ N, 2 ^ (d + 1) - 1 = N := ⟨_, rfl⟩
  rw [hNe] at C4 ⊢
  clear hI hN hq hT hr hl hj hfN hfQ hS0 hd6 hjd hnn hNe hz
  go_enter Tryz.func11, Tryz.ntmps11
  go_wp2_with fail
  refine C1.out.mono ?_
  rintro e' w1 ⟨rfl, hb⟩
  have HI1 := Lib.hid (HI.out.below hb)
  clear hb t0 t1 u0 u1 u2 u3 u4 u5 hW0
  obtain ⟨t0, t1⟩ := HI1.out.tr.cs
  obtain ⟨u0, u1, u2, u3, u4, u5⟩ := HI1.out.lf.cs
  dsimp only at u0 u1 u2 u3 u4 u5
  go_wp2_with fail
  refine (C2.out _).mono ?_
  rintro e' w2 ⟨rfl, hb⟩
  have HI2 := Lib.hid (HI1.out.below hb)
  clear hb t0 t1 u0 u1 u2 u3 u4 u5
  obtain ⟨t0, t1⟩ := HI2.out.tr.cs
  go_wp2_with fail
  refine (C3.out _ HI2.out.bl).mono ?_
  rintro e' w3 ⟨rfl, hb⟩
  have HI3 := Lib.hid (HI2.out.below hb)
  clear hb t0 t1
  obtain ⟨t0, t1⟩ := HI3.out.tr.cs
  obtain ⟨u0, u1, u2, u3, u4, u5⟩ := HI3.out.lf.cs
  dsimp only at u0 u1 u2 u3 u4 u5
  go_wp2_with fail
  refine (C4.out _ HI3.out.bl).mono ?_
  rintro e' w4 ⟨g, rfl, ⟨bs, hbs, ho⟩, hb⟩
  have HI4 := Lib.hid (HI3.out.below hb); have HO4 := Lib.hid ho
  have HG := Lib.hid (show w.heap.size + 1 + 1 < w3.heap.size ∧ w3.heap.size ≤ g from ⟨(Array.getElem?_eq_some_iff.1 HI3.out.out).1, Nat.le_trans hbs ho.lt.1⟩)
  clear hb t0 t1 u0 u1 u2 u3 u4 u5 ho hbs
  go_wp2_with (refine wpList_store_row rfl 24 (.tmp 6) (.tmp 24) rfl (w.heap.size + 1 + 1) #[.int .i64 d, .slice (some ⟨g, 0, none⟩) N N] rfl rfl 24 zt HI4.out.out (tr_sized _ _ _ _) rfl (tr_all _ _ _ _) ?_)
  have HQZ := Lib.hid (setRow_heap w4 (w.heap.size + 1 + 1) _ #[.int .i64 d, .slice (some ⟨g, 0, none⟩) N N] 24 _ HI4.out.out)
  go_wp2_with fail
  refine bodyPost_ret (v := .tuple #[.agg #[.int .i64 d, .slice (some ⟨g, 0, none⟩) N N], .int .i64 0]) (results2 (p := 6) (u := 7) (ty := 24) (by kernel_rfl) _ _ (w.heap.size + 1 + 1) 24 #[.int .i64 d, .slice (some ⟨g, 0, none⟩) N N] (0, 0) _ rfl HQZ.out Tryz.underlying24 rfl (tr_sized _ _ _ _)) rfl ?_
  have hg := HG.out
  refine ⟨g, rfl, ?_, by omega, below_setRow HI4.out.bl (by omega) _⟩
  exact ⟨bs, HO4.out.kept (by simp [World.setRow]) (setRow_other w4 _ g _ (by omega)) (fun b hb _ => setRow_other w4 _ b _ (by have := HS0.out b hb; omega))⟩
theorem renew_yes (d : Nat) (A : Option Addr) (n c : Nat) (ns : List Nd) (q : NdQ) (nl : Nd) (j : Nat) (w : World) (hN : Nodes Any Any w A n c ns) (hq : NdIs Any w q nl) (hT : Sp.Tab w) (hr : Right ns d) (hl : LeafR nl) (hj : There ns d j) :
    Calls Tryz.prog 11 #[.agg #[.int .i64 d, .slice A n c], .int .i64 j, .agg q.cs] w fun e w' => ∃ g, e = .returned (.tuple #[.agg #[.int .i64 d, .slice (some ⟨g, 0, none⟩) (2 ^ (d + 1) - 1) (2 ^ (d + 1) - 1)], .int .i64 0]) ∧ Nodes Any Any w' (some ⟨g, 0, none⟩) (2 ^ (d + 1) - 1) (2 ^ (d + 1) - 1) (renF ns d j nl) ∧ w.heap.size ≤ g ∧ Below w.heap.size w w' :=
  (renew_yesS (fun b => b < w.heap.size) d A n c ns q nl j w (fun _ h => h) (hN.farB (Below.refl _ _)) hq.far hN hq hT hr hl hj).mono fun e w' ⟨g, h1, ⟨bs, h2⟩, h3, h4⟩ => ⟨g, h1, h2.nodes.any, h3, h4⟩

/-- what is left without a leaf -/
def remD (ns : List Nd) (d j : Nat) : Nat := (cutF d (renF ns d j blank)).1
def remF (ns : List Nd) (d j : Nat) : List Nd := (cutF d (renF ns d j blank)).2
set_option maxHeartbeats 4000000 in
set_option maxRecDepth 100000 in
theorem remove_yes (d : Nat) (A : Option Addr) (n c : Nat) (ns : List Nd) (j : Nat) (w : World) (hN : Nodes Any Any w A n c ns) (hT : Sp.Tab w) (hr : Right ns d) (hj : There ns d j) :
    Calls Tryz.prog 13 #[.agg #[.int .i64 d, .slice A n c], .int .i64 j] w fun e w' => ∃ g n' c', e = .returned (.tuple #[.agg #[.int .i64 (remD ns d j : Nat), .slice (some ⟨g, 0, none⟩) n' c'], .int .i64 0]) ∧ Nodes Any Any w' (some ⟨g, 0, none⟩) n' c' (remF ns d j) ∧ w.heap.size ≤ g ∧ Below w.heap.size w w' := by
  have hfN := hN.farB (Below.refl _ _)
  have HFN := Lib.hid (fun W (hb : Below w.heap.size w W) => hN.farT hfN hb)
  have hd6 := hr.deep
  have hjd : j < 2 ^ d := by have := hj.2.1; rw [pow_eq] at this; omega
  have hnn : n = 2 ^ (d + 1) - 1 := by rw [← hr.len, hN.len]
  obtain ⟨W2, hW2, g1, g2, hB2⟩ := two_trees w (d : Int) A n c 0 none 0 0
  have B2 := Lib.hid hB2; have G1 := Lib.hid g1; have G2 := Lib.hid g2
  have hs2 : w.heap.size + 1 < W2.heap.size := g2.lt
  obtain ⟨t0, t1⟩ := g1.cs
  have C1 := Lib.hid (right_is d A n c ns true W2 (hN.below hB2) (hT.below hB2) (by simp; exact ⟨d, rfl, hr⟩))
  have C3 := Lib.hid (fun W (hb : Below w.heap.size w W) => isThere_is d A n c ns j true W (by omega) hnn (hN.below hb) (by simp [hj]))
  have C4 := Lib.hid (fun W (hb : Below w.heap.size w W) => replaced_isS (fun b => b < w.heap.size) d A n c ns zeroQ blank j W (fun b h => Nat.lt_of_lt_of_le h hb.size) (HFN.out W hb) (NdFar.zero _) (hN.below hb) (NdIs.zero _ _) hr hjd)
  obtain ⟨ms, hms⟩ : ∃ ms, renF ns d j blank = ms := ⟨_, rfl⟩
  have hrm : Right ms d := by rw [← hms]; exact ren_right hr hjd (.inl rfl)
  have C5 := Lib.hid (fun g n' c' W (h : Nodes Any Any W (some ⟨g, 0, none⟩) n' c' ms) => cut_is d ms _ _ _ W h hrm)
  have HREM := Lib.hid (show remD ns d j = (cutF d ms).1 ∧ remF ns d j = (cutF d ms).2 by unfold remD remF; rw [hms]; exact ⟨rfl, rfl⟩)
  rw [hms] at C4
  obtain ⟨rd, hrd⟩ : ∃ x, remD ns d j = x := ⟨_, rfl⟩
  have hrd2 : (cutF d ms).1 = rd := by rw [← HREM.out.1]; exact hrd
  rw [hrd2] at C5
  rw [hrd]
  obtain ⟨N, hNe⟩ : ∃ N, 2 ^ (d + 1) - 1 = N := ⟨_, rfl⟩
  rw [hNe] at C4
  dsimp only [zeroQ, NdQ.cs] at C4
  clear hN hT hr hj hfN hd6 hjd hnn hNe g1 g2 hB2 hms hrm hrd hrd2
  go_enter Tryz.func13, Tryz.ntmps13
  go_wp2_with fail
  refine C1.out.mono ?_
  rintro e' w1 ⟨rfl, hb⟩
  have HB1 := Lib.hid (B2.out.trans (hb.mono B2.out.size)); have HC1 := Lib.hid hb
  clear hb t0 t1 hW2
  obtain ⟨t0, t1⟩ := (G1.out.below HC1.out (by omega)).cs
  go_wp2_with fail
  refine (C3.out _ HB1.out).mono ?_
  rintro e' w3 ⟨rfl, hb⟩
  have HB3 := Lib.hid (HB1.out.trans (hb.mono HB1.out.size)); have HC3 := Lib.hid (HC1.out.trans (hb.mono HC1.out.size))
  clear hb t0 t1
  obtain ⟨t0, t1⟩ := (G1.out.below HC3.out (by omega)).cs
  go_wp2_with fail
  refine (C4.out _ HB3.out).mono ?_
  rintro e' w4 ⟨g, rfl, ⟨bs, hbs, ho⟩, hb⟩
  have HB4 := Lib.hid (HB3.out.trans (hb.mono HB3.out.size)); have HC4 := Lib.hid (HC3.out.trans (hb.mono HC3.out.size)); have HO4 := Lib.hid ho
  have HG := Lib.hid (show w.heap.size + 1 < w3.heap.size ∧ w3.heap.size ≤ g from ⟨Nat.lt_of_lt_of_le hs2 HC3.out.size, Nat.le_trans hbs ho.lt.1⟩)
  clear hb t0 t1 ho hbs
  go_wp2_with fail
  refine (C5.out _ _ _ _ HO4.out.nodes.any).mono ?_
  rintro e' w5 ⟨n', c', rfl, hcut, hb⟩
  have HB5 := Lib.hid (HB4.out.trans (hb.mono HB4.out.size)); have HC5 := Lib.hid (HC4.out.trans (hb.mono HC4.out.size)); have HO5 := Lib.hid (HO4.out.below hb)
  have HCUT := Lib.hid hcut
  have HZ5 : Hid (TrB 0 none 0 0 w5 (w.heap.size + 1)) := Lib.hid (G2.out.below HC5.out hs2)
  clear hb hcut
  go_wp2_with (refine wpList_store_row rfl 24 (.tmp 4) (.tmp 19) rfl (w.heap.size + 1) #[.int .i64 rd, .slice (some ⟨g, 0, none⟩) n' c'] rfl rfl 24 #[.int .i64 0, .slice none 0 0] HZ5.out (tr_sized _ _ _ _) rfl (tr_all _ _ _ _) ?_)
  have HQZ := Lib.hid (setRow_heap w5 (w.heap.size + 1) _ #[.int .i64 rd, .slice (some ⟨g, 0, none⟩) n' c'] 24 _ HZ5.out)
  go_wp2_with fail
  refine bodyPost_ret (v := .tuple #[.agg #[.int .i64 rd, .slice (some ⟨g, 0, none⟩) n' c'], .int .i64 0]) (results2 (p := 4) (u := 5) (ty := 24) (by kernel_rfl) _ _ (w.heap.size + 1) 24 #[.int .i64 rd, .slice (some ⟨g, 0, none⟩) n' c'] (0, 0) _ rfl HQZ.out Tryz.underlying24 rfl (tr_sized _ _ _ _)) rfl ?_
  have hg := HG.out
  obtain ⟨h1, h2, h3, h4⟩ := HCUT.out
  refine ⟨g, n', c', rfl, ?_, by omega, below_setRow HB5.out (by omega) _⟩
  have h := nodes_sub ((HO5.out.kept (by simp [World.setRow]) (setRow_other w5 _ g _ (by omega)) (fun b hb _ => setRow_other w5 _ b _ (by omega)) : OwnN _ (w5.setRow (w.heap.size + 1) #[.int .i64 rd, .slice (some ⟨g, 0, none⟩) n' c']) _ _ _ _ _).nodes.any) 0 n' (by omega) c' h2 h3
  rw [HREM.out.2, h4]
  exact h
end Go.Proofs.YtakglldffpnlaaaGreatDoor.Rt
