/- Walks: isRight. -/
import Derived.Test.YtakglldffpnlaaaGreatDoorRtWalkB
import Derived.Deep.DrawnRows
namespace Go.Proofs.YtakglldffpnlaaaGreatDoor.Rt
set_option linter.all false
open Go.RowKit
open Wr (Txt Any New)

/-- which a node is, by how it lies -/
theorem ndR_zero {ns : List Nd} {d l p : Nat} {S : Nat → Prop} {w : World} {q : NdQ} {n : Nd} (h : NdIs S w q n) (hk : n.kind = 0) : blankF q.k q.n1 q.n2 q.n3 q.n4 q.n5 = true ↔ NdR ns d l p n := by
  have e1 := h.ek.len; have e2 := h.vk.len; have e3 := h.nm.len; have e4 := h.ab.len; have e5 := h.un.len
  rw [← e1, ← e2, ← e3, ← e4, ← e5, h.k]
  unfold blankF signerF
  constructor
  · intro hh
    simp at hh
    refine .bl ?_
    obtain ⟨k, a, b, c, f, g⟩ := n
    simp_all [blank]
  · intro hh
    rw [hh.zero hk]
    rfl
theorem ndR_leaf {ns : List Nd} {d l p : Nat} {S : Nat → Prop} {w : World} {q : NdQ} {n : Nd} (h : NdIs S w q n) (hk : n.kind = 1) : (decide (l = 0) && leafF q.k q.n1 q.n2 q.n3 q.n4 q.n5) = true ↔ NdR ns d l p n := by
  have e1 := h.ek.len; have e2 := h.vk.len; have e3 := h.nm.len; have e4 := h.ab.len; have e5 := h.un.len
  rw [← e1, ← e2, ← e3, ← e4, ← e5, h.k]
  unfold leafF keyF
  constructor
  · intro hh
    simp at hh
    obtain ⟨h0, h1, ⟨h2, h3⟩, h4, ⟨h5, h6⟩, h7⟩ := hh
    exact .lf h0 ⟨h1, h2, h4, ⟨by omega, h6⟩, by rcases h3 with h | h; { left; simp [h] }; { right; exact h }, by simpa using h7⟩
  · intro hh
    cases hh with
    | bl e => rw [e] at hk; exact absurd hk (by decide)
    | lf h0 hl =>
      simp [h0, hl.kind, hl.ek, hl.vk, hl.nm.1, hl.nm.2, hl.un]
      rcases hl.above with h | h
      · left; simpa using h
      · right; exact h
    | nod _ hn _ => rw [hn.kind] at hk; exact absurd hk (by decide)
theorem ndR_node {ns : List Nd} {d l p : Nat} {S : Nat → Prop} {w : World} {q : NdQ} {n : Nd} (h : NdIs S w q n) (hk : n.kind = 2) : (0 < l ∧ nodeF q.k q.n1 q.n2 q.n3 q.n4 = true ∧ UnG ns d l p (-1) n.un) ↔ NdR ns d l p n := by
  have e1 := h.ek.len; have e2 := h.vk.len; have e3 := h.nm.len; have e4 := h.ab.len; have e5 := h.un.len
  rw [← e1, ← e2, ← e3, ← e4, h.k]
  unfold nodeF keyF signerF
  constructor
  · rintro ⟨h0, hh, hu⟩
    simp at hh
    obtain ⟨h1, ⟨h2, h3⟩, h4, h5⟩ := hh
    exact .nod h0 ⟨h1, h2, h4, h5, by rcases h3 with h | h; { left; simp [h] }; { right; exact h }⟩ ⟨hu.1, hu.2⟩
  · intro hh
    cases hh with
    | bl e => rw [e] at hk; exact absurd hk (by decide)
    | lf _ hl => rw [hl.kind] at hk; exact absurd hk (by decide)
    | nod h0 hn hu =>
      refine ⟨h0, ?_, hu.rise, hu.each⟩
      simp [hn.kind, hn.ek, hn.vk, hn.nm]
      rcases hn.above with h | h
      · left; simpa using h
      · right; exact h
theorem ndR_else {ns : List Nd} {d l p : Nat} {n : Nd} (h0 : n.kind ≠ 0) (h1 : n.kind ≠ 1) (h2 : n.kind ≠ 2) : ¬ NdR ns d l p n := by
  intro hh
  cases hh with
  | bl e => rw [e] at h0; exact absurd rfl h0
  | lf _ hl => exact h1 hl.kind
  | nod _ hn _ => exact h2 hn.kind
theorem at_spot (l p : Nat) (hl : l ≤ 16) (hp : p < 2 ^ (16 - l)) : Sp.AtC (idx l p : Nat) (Fl.fl l) (Fl.fl p) := ⟨idx l p, l, p, rfl, by rw [idx_succ], hl, hp, ⟨rfl, rfl⟩⟩
theorem is_spot (l p : Nat) (hl : l ≤ 16) (hp : p < 2 ^ (16 - l)) : Sp.Is (Fl.fl l) (Fl.fl p) (some (l, p)) := ⟨Fl.nz_fl _, Fl.nz_fl _, hl, hp⟩
theorem two_new (w : World) (cs : Array Value) (q : NdQ) (t : TypeId) : ∃ W, (w.alloc (.cells cs t)).alloc (.cells q.cs 28) = W ∧ W.heap[w.heap.size]? = some (.cells cs t (0, 0)) ∧ NdB q.k q.A1 q.n1 q.c1 q.A2 q.n2 q.c2 q.A3 q.n3 q.c3 q.A4 q.n4 q.c4 q.A5 q.n5 q.c5 W (w.heap.size + 1) ∧ Below w.heap.size w W := by
  refine ⟨_, rfl, (Below.heap_alloc _ _ _ (by simp)).trans (heap_alloc_last w _), ?_, ((Below.refl _ _).alloc (Nat.le_refl _) _).alloc (by simp) _⟩
  have := heap_alloc_last (w.alloc (.cells cs t)) (.cells q.cs 28)
  rwa [World.size_alloc] at this
theorem idx_even (l p : Nat) : (idx l p : Int).tmod 2 = if l = 0 then 0 else 1 := by
  rw [Int.tmod_eq_emod_of_nonneg (by omega)]
  cases l with
  | zero => rw [idx_zero, if_pos rfl]; omega
  | succ l => have := idx_odd l p; rw [if_neg (by omega)]; omega

theorem NdB.lt {k : Int} {A1 : Option Addr} {n1 c1 : Nat} {A2 : Option Addr} {n2 c2 : Nat} {A3 : Option Addr} {n3 c3 : Nat} {A4 : Option Addr} {n4 c4 : Nat} {A5 : Option Addr} {n5 c5 : Nat} {w : World} {g : Nat} (h : NdB k A1 n1 c1 A2 n2 c2 A3 n3 c3 A4 n4 c4 A5 n5 c5 w g) : g < w.heap.size := (Array.getElem?_eq_some_iff.1 h).1
theorem tn_cells {d : Int} {A : Option Addr} {n c : Nat} {k : Int} {A1 : Option Addr} {n1 c1 : Nat} {A2 : Option Addr} {n2 c2 : Nat} {A3 : Option Addr} {n3 c3 : Nat} {A4 : Option Addr} {n4 c4 : Nat} {A5 : Option Addr} {n5 c5 : Nat} {W : World} {g h : Nat}
    (h1 : TrB d A n c W g) (h2 : NdB k A1 n1 c1 A2 n2 c2 A3 n3 c3 A4 n4 c4 A5 n5 c5 W h) : W.cell? ⟨g, 0, none⟩ = some (.int .i64 d) ∧ W.cell? ⟨g, 1, none⟩ = some (.slice A n c) ∧ W.cell? ⟨h, 0, none⟩ = some (.int .i64 k) ∧ W.cell? ⟨h, 1, none⟩ = some (.slice A1 n1 c1) ∧ W.cell? ⟨h, 2, none⟩ = some (.slice A2 n2 c2) ∧
            W.cell? ⟨h, 3, none⟩ = some (.slice A3 n3 c3) ∧ W.cell? ⟨h, 4, none⟩ = some (.slice A4 n4 c4) ∧ W.cell? ⟨h, 5, none⟩ = some (.slice A5 n5 c5) :=
  ⟨h1.cs.1, h1.cs.2, h2.cs.1, h2.cs.2.1, h2.cs.2.2.1, h2.cs.2.2.2.1, h2.cs.2.2.2.2.1, h2.cs.2.2.2.2.2⟩
/-- a tree and a node, each in a block -/
def TN (d : Int) (A : Option Addr) (n c : Nat) (k : Int) (A1 : Option Addr) (n1 c1 : Nat) (A2 : Option Addr) (n2 c2 : Nat) (A3 : Option Addr) (n3 c3 : Nat) (A4 : Option Addr) (n4 c4 : Nat) (A5 : Option Addr) (n5 c5 : Nat) (g h : Nat) (W : World) : Prop :=
  TrB d A n c W g ∧ NdB k A1 n1 c1 A2 n2 c2 A3 n3 c3 A4 n4 c4 A5 n5 c5 W h
theorem TN.below {d : Int} {A : Option Addr} {n c : Nat} {k : Int} {A1 : Option Addr} {n1 c1 : Nat} {A2 : Option Addr} {n2 c2 : Nat} {A3 : Option Addr} {n3 c3 : Nat} {A4 : Option Addr} {n4 c4 : Nat} {A5 : Option Addr} {n5 c5 : Nat} {g h : Nat} {w w' : World}
    (x : TN d A n c k A1 n1 c1 A2 n2 c2 A3 n3 c3 A4 n4 c4 A5 n5 c5 g h w) (hb : Below w.heap.size w w') : TN d A n c k A1 n1 c1 A2 n2 c2 A3 n3 c3 A4 n4 c4 A5 n5 c5 g h w' := ⟨x.1.below hb x.1.lt, x.2.below hb x.2.lt⟩
set_option maxHeartbeats 4000000 in
set_option maxRecDepth 100000 in
theorem isRight_is (d : Nat) (A : Option Addr) (n c : Nat) (ns : List Nd) (l p : Nat) (b : Bool) (w : World) (hd : d ≤ 16) (hn : n = 2 ^ (d + 1) - 1) (hN : Nodes Any Any w A n c ns) (hT : Sp.Tab w) (hl : l ≤ d) (hp : p < 2 ^ (d - l)) (hb : b = true ↔ NdR ns d l p (nd ns (idx l p))) :
    Calls Tryz.prog 47 #[.agg #[.int .i64 d, .slice A n c], .int .i64 (idx l p : Nat)] w fun e w' => e = .returned (.bool b) ∧ Below w.heap.size w w' := by
  have hi := idx_lt hl hp
  rw [← hn] at hi
  have hp16 : p < 2 ^ (16 - l) := Nat.lt_of_lt_of_le hp (Nat.pow_le_pow_right (by decide) (show d - l ≤ 16 - l by omega))
  have CA := Lib.hid (at_spot l p (by omega) hp16)
  have HS := Lib.hid (is_spot l p (by omega) hp16)
  have hev := idx_even l p
  obtain ⟨ad, rfl⟩ := hN.some (by omega)
  obtain ⟨q, q1, q2⟩ := hN.at (idx l p) hi
  have hlt : ad.block < w.heap.size := (hN.2.2.2.2.1 ad rfl).2 (by omega)
  have hi' : ((idx l p : Nat) : Int) < (n : Int) := by omega
  obtain ⟨i, hid⟩ : ∃ i, idx l p = i := ⟨_, rfl⟩
  rw [hid] at CA hev hi hi' q1 q2 hb ⊢
  obtain ⟨q0, qa, qb, qc, qd, qe⟩ := (q1.of_block (w' := w.alloc (.cells #[.int .i64 d, .slice (some ad) n c] 24)) (Below.heap_alloc _ _ _ (by rw [Wr.add_block]; exact hlt))).cells
  have HN := Lib.hid hN; have HD := Lib.hid hd; have HL := Lib.hid hn; have H2 := Lib.hid q2; have HT := Lib.hid hT; have HB := Lib.hid hb; have HEV := Lib.hid hev
  obtain ⟨r, hr⟩ : ∃ r : Int, (i : Int).tmod 2 = r := ⟨_, rfl⟩
  have hr2 : (r == 0) = decide (l = 0) := by rw [← hr, hev]; by_cases h : l = 0 <;> simp [h]
  obtain ⟨ev, hev'⟩ : ∃ ev, decide (l = 0) = ev := ⟨_, rfl⟩
  rw [hev'] at hr2
  have HEV := Lib.hid hev'
  clear hN hd hn q1 q2 hlt hT hb hev hi hid hl hp hp16 hev'
  obtain ⟨W2, hW2, g1, g2, hB2⟩ := two_new w #[.int .i64 d, .slice (some ad) n c] q 24
  have G1 : Hid (TrB d (some ad) n c W2 w.heap.size) := Lib.hid g1
  have G2 := Lib.hid g2; have B2 := Lib.hid hB2
  have hsz : w.heap.size + 1 < W2.heap.size := (Array.getElem?_eq_some_iff.1 g2).1
  clear g1 hB2
  obtain ⟨k, A1, n1, c1, A2, n2, c2, A3, n3, c3, A4, n4, c4, A5, n5, c5⟩ := q
  dsimp only [NdQ.cs] at *
  obtain ⟨t0, t1, t2, t3, t4, t5⟩ := g2.cs
  clear g2
  by_cases k0 : k = 0
  · have C1 := Lib.hid (blank_is k A1 n1 c1 A2 n2 c2 A3 n3 c3 A4 n4 c4 A5 n5 c5 b W2 (by
      have e := HB.out
      have z := ndR_zero (ns := ns) (d := d) (l := l) (p := p) H2.out (by rw [← H2.out.k]; exact k0)
      rw [Bool.eq_iff_iff, e]; exact z))
    have yk : (k == 0) = true := by simp [k0]
    clear k0
    go_enter Tryz.func47, Tryz.ntmps47
    go_wp2_with (first | (go_at_call 70; refine C1.out.mono ?_; rintro e' w3 ⟨rfl, hb3⟩; have B3 := Lib.hid (B2.out.trans (hb3.mono B2.out.size)); clear hb3) | go_in)
    go_ret
    exact ⟨rfl, B3.out⟩
  have yk0 : (k == 0) = false := by simp [k0]
  by_cases k1 : k = 1
  · have yk : (k == 1) = true := by simp [k1]
    have z := ndR_leaf (ns := ns) (d := d) (l := l) (p := p) H2.out (by rw [← H2.out.k]; exact k1)
    rw [HEV.out] at z
    cases ev with
    | false =>
      obtain rfl : b = false := by rw [Bool.eq_false_iff]; intro h; have := z.2 (HB.out.1 h); simp at this
      clear k0 k1 z
      go_enter Tryz.func47, Tryz.ntmps47
      go_wp2_with (first | fail | go_in)
      go_ret
      exact ⟨rfl, B2.out⟩
    | true =>
      have C1 := Lib.hid (leaf_is k A1 n1 c1 A2 n2 c2 A3 n3 c3 A4 n4 c4 A5 n5 c5 b W2 (by rw [Bool.eq_iff_iff, HB.out, ← z]; simp))
      clear k0 k1 z
      go_enter Tryz.func47, Tryz.ntmps47
      go_wp2_with (first | (go_at_call 29; refine C1.out.mono ?_; rintro e' w3 ⟨rfl, hb3⟩; have B3 := Lib.hid (B2.out.trans (hb3.mono B2.out.size)); clear hb3) | go_in)
      go_ret
      exact ⟨rfl, B3.out⟩
  have yk1 : (k == 1) = false := by simp [k1]
  by_cases k2 : k = 2
  · have yk : (k == 2) = true := by simp [k2]
    have z := ndR_node (ns := ns) (d := d) (l := l) (p := p) H2.out (by rw [← H2.out.k]; exact k2)
    clear k0 k1
    have G1d : Hid (TrB d (some ad) n c W2.drew w.heap.size) := Lib.hid G1.out
    have G2d : Hid (NdB k A1 n1 c1 A2 n2 c2 A3 n3 c3 A4 n4 c4 A5 n5 c5 W2.drew (w.heap.size + 1)) := Lib.hid G2.out
    have KS := Lib.hid (tn_cells G1d.out G2d.out)
    have hszd : w.heap.size + 1 < W2.drew.heap.size := hsz
    by_cases hl : 0 < l
    · obtain rfl : ev = false := by rw [← HEV.out]; exact decide_eq_false (by omega)
      by_cases hnf : nodeF k n1 n2 n3 n4 = true
      · have C1 := Lib.hid fun w => node_is k A1 n1 c1 A2 n2 c2 A3 n3 c3 A4 n4 c4 A5 n5 c5 true w hnf
        have HB2 : Hid (b = true ↔ UnG ns d l p (-1) (nd ns i).un) := Lib.hid (HB.out.trans (z.symm.trans ⟨fun h => h.2.2, fun h => ⟨hl, hnf, h⟩⟩))
        clear z k2 hl hnf
        go_enter Tryz.func47, Tryz.ntmps47
        go_wp2_with (fail)
        clear q0 qa qb qc qd qe t0 t1 t2 t3 t4 t5 hW2
        go_region_held3 (fun W => W.cell? ⟨w.heap.size, 0, none⟩ = some (.int .i64 d) ∧ W.cell? ⟨w.heap.size, 1, none⟩ = some (.slice (some ad) n c) ∧ W.cell? ⟨w.heap.size + 1, 0, none⟩ = some (.int .i64 k) ∧ W.cell? ⟨w.heap.size + 1, 1, none⟩ = some (.slice A1 n1 c1) ∧ W.cell? ⟨w.heap.size + 1, 2, none⟩ = some (.slice A2 n2 c2) ∧
            W.cell? ⟨w.heap.size + 1, 3, none⟩ = some (.slice A3 n3 c3) ∧ W.cell? ⟨w.heap.size + 1, 4, none⟩ = some (.slice A4 n4 c4) ∧ W.cell? ⟨w.heap.size + 1, 5, none⟩ = some (.slice A5 n5 c5))
          (first | (exact KS2.out) | (exact KS1.out) | (exact KS.out))
          (first
            | (go_at_call 71; refine (C1.out _).mono ?_; rintro e' w3 ⟨rfl, hb3⟩; have G1e := Lib.hid (G1d.out.below hb3 (by omega)); have G2e := Lib.hid (G2d.out.below hb3 (by omega)); have KS1 := Lib.hid (tn_cells G1e.out G2e.out); have B3 := Lib.hid (B2.out.drew.trans (hb3.mono B2.out.size)); clear hb3)
            | (go_at_call 73; refine (Sp.at_c CA.out _ (HT.out.below B3.out)).mono ?_; rintro e' w4 ⟨rfl, rfl⟩)
            | (go_at_call 72; refine (mayBe_is d (some ad) n c ns (Fl.fl l) (Fl.fl p) l p A5 n5 c5 (nd ns i).un b _ HD.out HL.out (HN.out.below B3.out) HS.out (H2.out.un.below B3.out) HB2.out).mono ?_; rintro e' w5 ⟨rfl, hb5⟩; have G1f := Lib.hid (G1e.out.below hb5 G1e.out.lt); have G2f := Lib.hid (G2e.out.below hb5 G2e.out.lt); have KS2 := Lib.hid (tn_cells G1f.out G2f.out); have B5 := Lib.hid (B3.out.trans (hb5.mono B3.out.size)); clear hb5))
        all_goals go_wp2
        all_goals go_ret
        all_goals exact ⟨rfl, B5.out⟩
      · have C1 := Lib.hid fun w => node_is k A1 n1 c1 A2 n2 c2 A3 n3 c3 A4 n4 c4 A5 n5 c5 false w (by rw [Bool.not_eq_true] at hnf; exact hnf)
        obtain rfl : b = false := by rw [Bool.eq_false_iff]; intro h; exact hnf (z.2 (HB.out.1 h)).2.1
        have KT : Hid (TN d (some ad) n c k A1 n1 c1 A2 n2 c2 A3 n3 c3 A4 n4 c4 A5 n5 c5 w.heap.size (w.heap.size + 1) W2.drew) := Lib.hid ⟨G1d.out, G2d.out⟩
        clear z k2 hl hnf
        go_enter Tryz.func47, Tryz.ntmps47
        go_wp2_with (fail)
        clear q0 qa qb qc qd qe t0 t1 t2 t3 t4 t5 hW2
        try simp only [Act.put]
        refine Wr.region_calm ?_
        refine wp_region_any (by kernel_rfl) ?_
        change wpAny _ _ _ _ _ _ _ (World.drew W2)
        refine wpAny_of_held (S := TN d (some ad) n c k A1 n1 c1 A2 n2 c2 A3 n3 c3 A4 n4 c4 A5 n5 c5 w.heap.size (w.heap.size + 1)) _ _ _ _ ?_
        refine wpAnyH_take (i := 0) (v := ?vd1) rfl (by kernel_rfl) (by kernel_rfl) (by kernel_rfl) (fun _ _ _ h => h) (Or.inl ⟨by rfl, ?yd1⟩) KT.out ?rd1
        case yd1 => (intro w' hSw; clear hSw; go_simp; try with_reducible rfl)
        simp only [List.getElem_toArray, List.getElem_cons_succ, List.getElem_cons_zero, Act.put, List.setIfInBounds_toArray, List.set_cons_zero, List.set_cons_succ]
        refine wpAnyH_take (i := 1) (v := ?vd2) rfl (by kernel_rfl) (by kernel_rfl) (by kernel_rfl) (fun _ _ _ h => h) (Or.inl ⟨by rfl, ?yd2⟩) KT.out ?rd2
        case yd2 => (intro w' hSw; clear hSw; go_simp; try with_reducible rfl)
        simp only [List.getElem_toArray, List.getElem_cons_succ, List.getElem_cons_zero, Act.put, List.setIfInBounds_toArray, List.set_cons_zero, List.set_cons_succ]
        refine wpAnyH_take (i := 2) (v := ?vd3) rfl (by kernel_rfl) (by kernel_rfl) (by kernel_rfl) (fun _ _ _ h => h) (Or.inl ⟨by rfl, ?yd3⟩) KT.out ?rd3
        case yd3 => (intro w' hSw; clear hSw; go_simp; try with_reducible rfl)
        simp only [List.getElem_toArray, List.getElem_cons_succ, List.getElem_cons_zero, Act.put, List.setIfInBounds_toArray, List.set_cons_zero, List.set_cons_succ]
        refine wpAnyH_take (i := 3) (v := ?vd4) rfl (by kernel_rfl) (by kernel_rfl) (by kernel_rfl) (fun _ _ _ h => h) (Or.inl ⟨by rfl, ?yd4⟩) KT.out ?rd4
        case yd4 => (intro w' hSw; obtain ⟨t0, t1, t2, t3, t4, t5, t6, t7⟩ := tn_cells hSw.1 hSw.2; clear hSw; go_simp; try with_reducible rfl)
        simp only [List.getElem_toArray, List.getElem_cons_succ, List.getElem_cons_zero, Act.put, List.setIfInBounds_toArray, List.set_cons_zero, List.set_cons_succ]
        refine wpAnyH_ready (rs := [4]) (by kernel_rfl) (by simp) ?_
        refine AllReadyH.cons rfl (fun K' hK => ?_) AllReadyH.nil
        simp only [List.getElem_toArray, List.getElem_cons_succ, List.getElem_cons_zero]
        go_simp
        refine (C1.out _).mono ?_
        rintro e' w3 ⟨rfl, hb3⟩
        have B3 := Lib.hid (B2.out.drew.trans (hb3.mono B2.out.size))
        have KT1 := Lib.hid (KT.out.below hb3)
        clear hb3
        refine hK.out _ _ KT1.out (fun _ => ?_)
        clear hK
        try simp only [List.getElem_toArray, List.getElem_cons_succ, List.getElem_cons_zero, Act.put, List.setIfInBounds_toArray, List.set_cons_zero, List.set_cons_succ]
        refine wpAnyH_take (i := 5) (v := ?vd5) rfl (by kernel_rfl) (by kernel_rfl) (by kernel_rfl) (fun _ _ _ h => h) (Or.inl ⟨by rfl, ?yd5⟩) KT1.out ?rd5
        case yd5 => (intro w' hSw; clear hSw; go_simp; try with_reducible rfl)
        simp only [List.getElem_toArray, List.getElem_cons_succ, List.getElem_cons_zero, Act.put, List.setIfInBounds_toArray, List.set_cons_zero, List.set_cons_succ]
        refine wpAnyH_take (i := 6) (v := ?vd6) rfl (by kernel_rfl) (by kernel_rfl) (by kernel_rfl) (fun _ _ _ h => h) (Or.inl ⟨by rfl, ?yd6⟩) KT1.out ?rd6
        case yd6 => (intro w' hSw; clear hSw; go_simp; try with_reducible rfl)
        simp only [List.getElem_toArray, List.getElem_cons_succ, List.getElem_cons_zero, Act.put, List.setIfInBounds_toArray, List.set_cons_zero, List.set_cons_succ]
        refine wpAnyH_take (i := 7) (v := undef) rfl (by kernel_rfl) (by kernel_rfl) (by kernel_rfl) (fun _ _ _ h => h) (Or.inr ⟨by rfl, rfl⟩) KT1.out ?rd7
        simp only [List.getElem_toArray, List.getElem_cons_succ, List.getElem_cons_zero, Act.put, List.setIfInBounds_toArray, List.set_cons_zero, List.set_cons_succ]
        refine wpAnyH_take (i := 8) (v := undef) rfl (by kernel_rfl) (by kernel_rfl) (by kernel_rfl) (fun _ _ _ h => h) (Or.inr ⟨by rfl, rfl⟩) KT1.out ?rd8
        simp only [List.getElem_toArray, List.getElem_cons_succ, List.getElem_cons_zero, Act.put, List.setIfInBounds_toArray, List.set_cons_zero, List.set_cons_succ]
        refine wpAnyH_take (i := 9) (v := undef) rfl (by kernel_rfl) (by kernel_rfl) (by kernel_rfl) (fun _ _ _ h => h) (Or.inr ⟨by rfl, rfl⟩) KT1.out ?rd9
        simp only [List.getElem_toArray, List.getElem_cons_succ, List.getElem_cons_zero, Act.put, List.setIfInBounds_toArray, List.set_cons_zero, List.set_cons_succ]
        refine wpAnyH_take (i := 10) (v := undef) rfl (by kernel_rfl) (by kernel_rfl) (by kernel_rfl) (fun _ _ _ h => h) (Or.inr ⟨by rfl, rfl⟩) KT1.out ?rd10
        simp only [List.getElem_toArray, List.getElem_cons_succ, List.getElem_cons_zero, Act.put, List.setIfInBounds_toArray, List.set_cons_zero, List.set_cons_succ]
        refine wpAnyH_take (i := 11) (v := undef) rfl (by kernel_rfl) (by kernel_rfl) (by kernel_rfl) (fun _ _ _ h => h) (Or.inr ⟨by rfl, rfl⟩) KT1.out ?rd11
        simp only [List.getElem_toArray, List.getElem_cons_succ, List.getElem_cons_zero, Act.put, List.setIfInBounds_toArray, List.set_cons_zero, List.set_cons_succ]
        refine wpAnyH_take (i := 12) (v := undef) rfl (by kernel_rfl) (by kernel_rfl) (by kernel_rfl) (fun _ _ _ h => h) (Or.inr ⟨by rfl, rfl⟩) KT1.out ?rd12
        simp only [List.getElem_toArray, List.getElem_cons_succ, List.getElem_cons_zero, Act.put, List.setIfInBounds_toArray, List.set_cons_zero, List.set_cons_succ]
        refine wpAnyH_take (i := 13) (v := ?vd13) rfl (by kernel_rfl) (by kernel_rfl) (by kernel_rfl) (fun _ _ _ h => h) (Or.inl ⟨by rfl, ?yd13⟩) KT1.out ?rd13
        case yd13 => (intro w' hSw; clear hSw; go_simp; try with_reducible rfl)
        simp only [List.getElem_toArray, List.getElem_cons_succ, List.getElem_cons_zero, Act.put, List.setIfInBounds_toArray, List.set_cons_zero, List.set_cons_succ]
        refine wpAnyH_take (i := 14) (v := ?vd14) rfl (by kernel_rfl) (by kernel_rfl) (by kernel_rfl) (fun _ _ _ h => h) (Or.inl ⟨by rfl, ?yd14⟩) KT1.out ?rd14
        case yd14 => (intro w' hSw; clear hSw; go_simp; try with_reducible rfl)
        simp only [List.getElem_toArray, List.getElem_cons_succ, List.getElem_cons_zero, Act.put, List.setIfInBounds_toArray, List.set_cons_zero, List.set_cons_succ]
        refine wpAnyH_done (by kernel_rfl) ?_ _
        change Exit.then _ _ Exit.normal _ _
        go_wp2
        go_ret
        exact ⟨rfl, B3.out⟩
    · obtain rfl : ev = true := by rw [← HEV.out]; exact decide_eq_true (by omega)
      obtain rfl : b = false := by rw [Bool.eq_false_iff]; intro h; exact hl (z.2 (HB.out.1 h)).1
      have KT : Hid (TN d (some ad) n c k A1 n1 c1 A2 n2 c2 A3 n3 c3 A4 n4 c4 A5 n5 c5 w.heap.size (w.heap.size + 1) W2.drew) := Lib.hid ⟨G1d.out, G2d.out⟩
      clear z k2 hl
      go_enter Tryz.func47, Tryz.ntmps47
      go_wp2_with (fail)
      clear q0 qa qb qc qd qe t0 t1 t2 t3 t4 t5 hW2
      try simp only [Act.put]
      refine Wr.region_calm ?_
      refine wp_region_any (by kernel_rfl) ?_
      change wpAny _ _ _ _ _ _ _ (World.drew W2)
      refine wpAny_of_held (S := TN d (some ad) n c k A1 n1 c1 A2 n2 c2 A3 n3 c3 A4 n4 c4 A5 n5 c5 w.heap.size (w.heap.size + 1)) _ _ _ _ ?_
      refine wpAnyH_take (i := 0) (v := ?vd15) rfl (by kernel_rfl) (by kernel_rfl) (by kernel_rfl) (fun _ _ _ h => h) (Or.inl ⟨by rfl, ?yd15⟩) KT.out ?rd15
      case yd15 => (intro w' hSw; clear hSw; go_simp; try with_reducible rfl)
      simp only [List.getElem_toArray, List.getElem_cons_succ, List.getElem_cons_zero, Act.put, List.setIfInBounds_toArray, List.set_cons_zero, List.set_cons_succ]
      refine wpAnyH_take (i := 1) (v := ?vd16) rfl (by kernel_rfl) (by kernel_rfl) (by kernel_rfl) (fun _ _ _ h => h) (Or.inl ⟨by rfl, ?yd16⟩) KT.out ?rd16
      case yd16 => (intro w' hSw; clear hSw; go_simp; try with_reducible rfl)
      simp only [List.getElem_toArray, List.getElem_cons_succ, List.getElem_cons_zero, Act.put, List.setIfInBounds_toArray, List.set_cons_zero, List.set_cons_succ]
      refine wpAnyH_take (i := 2) (v := ?vd17) rfl (by kernel_rfl) (by kernel_rfl) (by kernel_rfl) (fun _ _ _ h => h) (Or.inl ⟨by rfl, ?yd17⟩) KT.out ?rd17
      case yd17 => (intro w' hSw; clear hSw; go_simp; try with_reducible rfl)
      simp only [List.getElem_toArray, List.getElem_cons_succ, List.getElem_cons_zero, Act.put, List.setIfInBounds_toArray, List.set_cons_zero, List.set_cons_succ]
      refine wpAnyH_take (i := 3) (v := undef) rfl (by kernel_rfl) (by kernel_rfl) (by kernel_rfl) (fun _ _ _ h => h) (Or.inr ⟨by rfl, rfl⟩) KT.out ?rd18
      simp only [List.getElem_toArray, List.getElem_cons_succ, List.getElem_cons_zero, Act.put, List.setIfInBounds_toArray, List.set_cons_zero, List.set_cons_succ]
      refine wpAnyH_take (i := 4) (v := undef) rfl (by kernel_rfl) (by kernel_rfl) (by kernel_rfl) (fun _ _ _ h => h) (Or.inr ⟨by rfl, rfl⟩) KT.out ?rd19
      simp only [List.getElem_toArray, List.getElem_cons_succ, List.getElem_cons_zero, Act.put, List.setIfInBounds_toArray, List.set_cons_zero, List.set_cons_succ]
      refine wpAnyH_take (i := 5) (v := ?vd20) rfl (by kernel_rfl) (by kernel_rfl) (by kernel_rfl) (fun _ _ _ h => h) (Or.inl ⟨by rfl, ?yd20⟩) KT.out ?rd20
      case yd20 => (intro w' hSw; clear hSw; go_simp; try with_reducible rfl)
      simp only [List.getElem_toArray, List.getElem_cons_succ, List.getElem_cons_zero, Act.put, List.setIfInBounds_toArray, List.set_cons_zero, List.set_cons_succ]
      refine wpAnyH_take (i := 6) (v := ?vd21) rfl (by kernel_rfl) (by kernel_rfl) (by kernel_rfl) (fun _ _ _ h => h) (Or.inl ⟨by rfl, ?yd21⟩) KT.out ?rd21
      case yd21 => (intro w' hSw; clear hSw; go_simp; try with_reducible rfl)
      simp only [List.getElem_toArray, List.getElem_cons_succ, List.getElem_cons_zero, Act.put, List.setIfInBounds_toArray, List.set_cons_zero, List.set_cons_succ]
      refine wpAnyH_take (i := 7) (v := undef) rfl (by kernel_rfl) (by kernel_rfl) (by kernel_rfl) (fun _ _ _ h => h) (Or.inr ⟨by rfl, rfl⟩) KT.out ?rd22
      simp only [List.getElem_toArray, List.getElem_cons_succ, List.getElem_cons_zero, Act.put, List.setIfInBounds_toArray, List.set_cons_zero, List.set_cons_succ]
      refine wpAnyH_take (i := 8) (v := undef) rfl (by kernel_rfl) (by kernel_rfl) (by kernel_rfl) (fun _ _ _ h => h) (Or.inr ⟨by rfl, rfl⟩) KT.out ?rd23
      simp only [List.getElem_toArray, List.getElem_cons_succ, List.getElem_cons_zero, Act.put, List.setIfInBounds_toArray, List.set_cons_zero, List.set_cons_succ]
      refine wpAnyH_take (i := 9) (v := undef) rfl (by kernel_rfl) (by kernel_rfl) (by kernel_rfl) (fun _ _ _ h => h) (Or.inr ⟨by rfl, rfl⟩) KT.out ?rd24
      simp only [List.getElem_toArray, List.getElem_cons_succ, List.getElem_cons_zero, Act.put, List.setIfInBounds_toArray, List.set_cons_zero, List.set_cons_succ]
      refine wpAnyH_take (i := 10) (v := undef) rfl (by kernel_rfl) (by kernel_rfl) (by kernel_rfl) (fun _ _ _ h => h) (Or.inr ⟨by rfl, rfl⟩) KT.out ?rd25
      simp only [List.getElem_toArray, List.getElem_cons_succ, List.getElem_cons_zero, Act.put, List.setIfInBounds_toArray, List.set_cons_zero, List.set_cons_succ]
      refine wpAnyH_take (i := 11) (v := undef) rfl (by kernel_rfl) (by kernel_rfl) (by kernel_rfl) (fun _ _ _ h => h) (Or.inr ⟨by rfl, rfl⟩) KT.out ?rd26
      simp only [List.getElem_toArray, List.getElem_cons_succ, List.getElem_cons_zero, Act.put, List.setIfInBounds_toArray, List.set_cons_zero, List.set_cons_succ]
      refine wpAnyH_take (i := 12) (v := undef) rfl (by kernel_rfl) (by kernel_rfl) (by kernel_rfl) (fun _ _ _ h => h) (Or.inr ⟨by rfl, rfl⟩) KT.out ?rd27
      simp only [List.getElem_toArray, List.getElem_cons_succ, List.getElem_cons_zero, Act.put, List.setIfInBounds_toArray, List.set_cons_zero, List.set_cons_succ]
      refine wpAnyH_take (i := 13) (v := ?vd28) rfl (by kernel_rfl) (by kernel_rfl) (by kernel_rfl) (fun _ _ _ h => h) (Or.inl ⟨by rfl, ?yd28⟩) KT.out ?rd28
      case yd28 => (intro w' hSw; clear hSw; go_simp; try with_reducible rfl)
      simp only [List.getElem_toArray, List.getElem_cons_succ, List.getElem_cons_zero, Act.put, List.setIfInBounds_toArray, List.set_cons_zero, List.set_cons_succ]
      refine wpAnyH_take (i := 14) (v := ?vd29) rfl (by kernel_rfl) (by kernel_rfl) (by kernel_rfl) (fun _ _ _ h => h) (Or.inl ⟨by rfl, ?yd29⟩) KT.out ?rd29
      case yd29 => (intro w' hSw; clear hSw; go_simp; try with_reducible rfl)
      simp only [List.getElem_toArray, List.getElem_cons_succ, List.getElem_cons_zero, Act.put, List.setIfInBounds_toArray, List.set_cons_zero, List.set_cons_succ]
      refine wpAnyH_done (by kernel_rfl) ?_ _
      change Exit.then _ _ Exit.normal _ _
      go_wp2
      go_ret
      exact ⟨rfl, B2.out.drew⟩
  · have yk2 : (k == 2) = false := by simp [k2]
    obtain rfl : b = false := by rw [Bool.eq_false_iff]; intro h; exact ndR_else (by rw [← H2.out.k]; exact k0) (by rw [← H2.out.k]; exact k1) (by rw [← H2.out.k]; exact k2) (HB.out.1 h)
    clear k0 k1 k2
    go_enter Tryz.func47, Tryz.ntmps47
    go_wp2_with (first | fail | go_in)
    go_ret
    exact ⟨rfl, B2.out⟩
end Go.Proofs.YtakglldffpnlaaaGreatDoor.Rt
