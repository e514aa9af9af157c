/- Walks: the document's nodeRight. Written by tools/mk_rtrefr.py. -/
import Derived.Test.YtakglldffpnlaaaGreatDoorRtRefL
namespace Go.Proofs.YtakglldffpnlaaaGreatDoor.Rt
set_option linter.all false
open Go.RowKit
open Wr (Txt Any New)

/-- an even number's node -/
theorem ndR_even {ns : List Nd} {d p : Nat} {S : Nat → Prop} {w : World} {q : NdQ} {n : Nd} (h : NdIs S w q n) (hk : n.kind ≠ 0) : leafF q.k q.n1 q.n2 q.n3 q.n4 q.n5 = true ↔ NdR ns d 0 p n := by
  by_cases h1 : n.kind = 1
  · have := ndR_leaf (ns := ns) (d := d) (l := 0) (p := p) h h1
    rw [decide_eq_true rfl, Bool.true_and] at this
    exact this
  · constructor
    · intro hh
      unfold leafF at hh
      rw [h.k, decide_eq_false h1] at hh
      simp at hh
    · intro hh
      cases hh with
      | bl e => rw [e] at hk; exact absurd rfl hk
      | lf _ k => exact absurd k.kind h1
      | nod h0 _ _ => omega
theorem ndR_odd {ns : List Nd} {d l p : Nat} {n : Nd} (h0 : n.kind ≠ 0) (hl : l ≠ 0) (h2 : n.kind ≠ 2) : ¬ NdR ns d l p n := by
  intro hh
  cases hh with
  | bl e => rw [e] at h0; exact absurd rfl h0
  | lf h _ => exact hl h
  | nod _ k _ => exact h2 k.kind
theorem add_none0 (a : Addr) : a.add 0 = a := rfl
/-- the number ahead -/
def lastOf (un : List Int) : Nat → Int
  | 0 => -1
  | k + 1 => gi un k

set_option maxHeartbeats 8000000 in
set_option maxRecDepth 100000 in
theorem refNode_is (d : Nat) (A : Option Addr) (n c : Nat) (ns : List Nd) (l p : Nat) (b : Bool) (w : World) (hd : d ≤ 16) (hn : n = 2 ^ (d + 1) - 1) (hN : Nodes Any Any w A n c ns) (hl : l ≤ d) (hp : p < 2 ^ (d - l)) (hb : b = true ↔ NdR ns d l p (nd ns (idx l p))) :
    Calls Tryz.prog 50 #[.agg #[.int .i64 d, .slice A n c], .int .i64 (idx l p : Nat)] w fun e w' => e = .returned (.bool b) ∧ Below w.heap.size w w' := by
  have hi := idx_lt hl hp
  rw [← hn] at hi
  have hp16 : p < 2 ^ (16 - l) := Nat.lt_of_lt_of_le hp (Nat.pow_le_pow_right (by decide) (show d - l ≤ 16 - l by omega))
  have CA := Lib.hid fun w => refAt_is l p w (by omega) hp16
  have HS := Lib.hid (is_spot l p (by omega) hp16)
  have hev := idx_even l p
  obtain ⟨ad, rfl⟩ := hN.some (by omega)
  obtain ⟨q, q1, q2⟩ := hN.at (idx l p) hi
  have hlt : ad.block < w.heap.size := (hN.2.2.2.2.1 ad rfl).2 (by omega)
  have hi' : ((idx l p : Nat) : Int) < (n : Int) := by omega
  obtain ⟨i, hid⟩ : ∃ i, idx l p = i := ⟨_, rfl⟩
  rw [hid] at CA hev hi hi' q1 q2 hb ⊢
  obtain ⟨q0, qa, qb, qc, qd, qe⟩ := (q1.of_block (w' := w.alloc (.cells #[.int .i64 d, .slice (some ad) n c] 24)) (Below.heap_alloc _ _ _ (by rw [Wr.add_block]; exact hlt))).cells
  have HN := Lib.hid hN; have HD := Lib.hid hd; have HL := Lib.hid hn; have H2 := Lib.hid q2; have HB := Lib.hid hb; have HEV := Lib.hid hev
  obtain ⟨r, hr⟩ : ∃ r : Int, (i : Int).tmod 2 = r := ⟨_, rfl⟩
  have hr2 : (r == 0) = decide (l = 0) := by rw [← hr, hev]; by_cases h : l = 0 <;> simp [h]
  obtain ⟨ev, hev'⟩ : ∃ ev, decide (l = 0) = ev := ⟨_, rfl⟩
  rw [hev'] at hr2
  have HEV := Lib.hid hev'
  clear hN hd hn q1 q2 hlt hb hev hi hid hl hp hp16 hev'
  obtain ⟨W2, hW2, g1, g2, hB2⟩ := two_new w #[.int .i64 d, .slice (some ad) n c] q 24
  have G1 : Hid (TrB d (some ad) n c W2 w.heap.size) := Lib.hid g1
  have G2 := Lib.hid g2; have B2 := Lib.hid hB2
  have hsz : w.heap.size + 1 < W2.heap.size := (Array.getElem?_eq_some_iff.1 g2).1
  clear g1 hB2
  obtain ⟨k, A1, n1, c1, A2, n2, c2, A3, n3, c3, A4, n4, c4, A5, n5, c5⟩ := q
  dsimp only [NdQ.cs] at *
  obtain ⟨t0, t1, t2, t3, t4, t5⟩ := g2.cs
  clear g2
  by_cases k0 : k = 0
  · have z : blankF k n1 n2 n3 n4 n5 = true ↔ b = true := (ndR_zero (ns := ns) (d := d) (l := l) (p := p) H2.out (by rw [← H2.out.k]; exact k0)).trans HB.out.symm
    obtain rfl : k = 0 := k0
    have k0 : True := trivial
    by_cases hn1 : n1 = 0
    · obtain rfl : n1 = 0 := hn1
      by_cases hn2 : n2 = 0
      · obtain rfl : n2 = 0 := hn2
        by_cases hn3 : n3 = 0
        · obtain rfl : n3 = 0 := hn3
          by_cases hn4 : n4 = 0
          · obtain rfl : n4 = 0 := hn4
            by_cases hn5 : n5 = 0
            · obtain rfl : n5 = 0 := hn5
              obtain rfl : b = true := z.1 (by simp [blankF, signerF, k0])
              clear z k0
              go_enter Tryz.func50, Tryz.ntmps50
              go_wp2
              go_ret
              exact ⟨rfl, B2.out⟩
            · have yn5 : ((n5 : Int) == 0) = false := by simp; omega
              obtain rfl : b = false := by rw [Bool.eq_false_iff]; intro h; have := z.2 h; simp [blankF, signerF] at this; omega
              clear z k0
              go_enter Tryz.func50, Tryz.ntmps50
              go_wp2
              go_ret
              exact ⟨rfl, B2.out⟩
          · have yn4 : ((n4 : Int) == 0) = false := by simp; omega
            obtain rfl : b = false := by rw [Bool.eq_false_iff]; intro h; have := z.2 h; simp [blankF, signerF] at this; omega
            clear z k0
            go_enter Tryz.func50, Tryz.ntmps50
            go_wp2
            go_ret
            exact ⟨rfl, B2.out⟩
        · have yn3 : ((n3 : Int) == 0) = false := by simp; omega
          obtain rfl : b = false := by rw [Bool.eq_false_iff]; intro h; have := z.2 h; simp [blankF, signerF] at this; omega
          clear z k0
          go_enter Tryz.func50, Tryz.ntmps50
          go_wp2
          go_ret
          exact ⟨rfl, B2.out⟩
      · have yn2 : ((n2 : Int) == 0) = false := by simp; omega
        obtain rfl : b = false := by rw [Bool.eq_false_iff]; intro h; have := z.2 h; simp [blankF, signerF] at this; omega
        clear z k0
        go_enter Tryz.func50, Tryz.ntmps50
        go_wp2
        go_ret
        exact ⟨rfl, B2.out⟩
    · have yn1 : ((n1 : Int) == 0) = false := by simp; omega
      obtain rfl : b = false := by rw [Bool.eq_false_iff]; intro h; have := z.2 h; simp [blankF, signerF] at this; omega
      clear z k0
      go_enter Tryz.func50, Tryz.ntmps50
      go_wp2
      go_ret
      exact ⟨rfl, B2.out⟩
  have yk0 : (k == 0) = false := by simp [k0]
  cases ev with
  | true =>
    obtain rfl : l = 0 := of_decide_eq_true HEV.out
    have z := (ndR_even (ns := ns) (d := d) (p := p) H2.out (by rw [← H2.out.k]; exact k0)).trans HB.out.symm
    have C1 := Lib.hid (refLeaf_is (A1 := A1) (c1 := c1) (A2 := A2) (c2 := c2) (A3 := A3) (c3 := c3) (A4 := A4) (c4 := c4) (A5 := A5) (c5 := c5) W2 (Bool.eq_iff_iff.2 z))
    clear z k0
    go_enter Tryz.func50, Tryz.ntmps50
    go_wp2_with (first | (go_at_call 35; refine C1.out.mono ?_; rintro e' w3 ⟨rfl, hb3⟩; have B3 := Lib.hid (B2.out.trans (hb3.mono B2.out.size)); clear hb3) | go_in)
    go_ret
    exact ⟨rfl, B3.out⟩
  | false =>
  have hl0 : l ≠ 0 := of_decide_eq_false HEV.out
  by_cases k2 : k = 2
  case neg =>
    have yk2 : (k != 2) = true := by simp [k2]
    have yk2' : (k == 2) = false := by simp [k2]
    obtain rfl : b = false := by rw [Bool.eq_false_iff]; intro h; exact ndR_odd (by rw [← H2.out.k]; exact k0) hl0 (by rw [← H2.out.k]; exact k2) (HB.out.1 h)
    clear k0 k2 hl0
    go_enter Tryz.func50, Tryz.ntmps50
    go_wp2
    go_ret
    exact ⟨rfl, B2.out⟩
  have z := (ndR_node (ns := ns) (d := d) (l := l) (p := p) H2.out (by rw [← H2.out.k]; exact k2)).trans HB.out.symm
  obtain rfl : k = 2 := k2
  clear k0 yk0
  by_cases hn1 : n1 = 1184
  case neg =>
    have yn1 : ((n1 : Int) == 1184) = false := by simp; omega
    have yn1' : ((n1 : Int) != 1184) = true := by simp; omega
    obtain rfl : b = false := by rw [Bool.eq_false_iff]; intro h; have := (z.2 h).2.1; simp [nodeF, keyF, signerF] at this; omega
    clear z
    go_enter Tryz.func50, Tryz.ntmps50
    go_wp2
    go_ret
    exact ⟨rfl, B2.out⟩
  obtain rfl : n1 = 1184 := hn1
  by_cases hn2 : n2 = 0
  case neg =>
    have yn2 : ((n2 : Int) == 0) = false := by simp; omega
    have yn2' : ((n2 : Int) != 0) = true := by simp; omega
    obtain rfl : b = false := by rw [Bool.eq_false_iff]; intro h; have := (z.2 h).2.1; simp [nodeF, keyF, signerF] at this; omega
    clear z
    go_enter Tryz.func50, Tryz.ntmps50
    go_wp2
    go_ret
    exact ⟨rfl, B2.out⟩
  obtain rfl : n2 = 0 := hn2
  by_cases hn3 : n3 = 0
  case neg =>
    have yn3 : ((n3 : Int) == 0) = false := by simp; omega
    have yn3' : ((n3 : Int) != 0) = true := by simp; omega
    obtain rfl : b = false := by rw [Bool.eq_false_iff]; intro h; have := (z.2 h).2.1; simp [nodeF, keyF, signerF] at this; omega
    clear z
    go_enter Tryz.func50, Tryz.ntmps50
    go_wp2
    go_ret
    exact ⟨rfl, B2.out⟩
  obtain rfl : n3 = 0 := hn3
  by_cases h4 : n4 = 0 ∨ n4 = 32
  case neg =>
    have y40 : ((n4 : Int) != 0) = true := by simp; omega
    have y41 : ((n4 : Int) != 32) = true := by simp; omega
    obtain rfl : b = false := by rw [Bool.eq_false_iff]; intro h; have := (z.2 h).2.1; simp [nodeF, keyF, signerF] at this; omega
    clear z
    go_enter Tryz.func50, Tryz.ntmps50
    go_wp2
    go_ret
    exact ⟨rfl, B2.out⟩
  have HU : Hid (b = true ↔ UnG ns d l p (-1) (nd ns i).un) := Lib.hid (z.symm.trans ⟨fun h => h.2.2, fun h => ⟨by omega, by rcases h4 with h4 | h4 <;> (rw [h4]; rfl), h⟩⟩)
  have HI : Hid (Ints Any w A5 n5 c5 (nd ns i).un) := Lib.hid H2.out.un
  generalize (nd ns i).un = un at HU HI
  clear z hl0
  have h63 : n5 ≤ 9223372036854775807 := by have a1 := HI.out.2.1; have a2 := HI.out.2.2.1; omega
  obtain ⟨m, hm⟩ : ∃ m, 2 ^ d = m := ⟨_, rfl⟩
  have HM := Lib.hid hm
  have hm2 : (2 : Int) ^ d = (m : Int) := by rw [← hm]; simp
  have hmb : m ≤ 65536 := by rw [← hm]; exact (pow_bd d HD.out).2
  have hm4 : IntKind.i64.wrap (m : Int) = m := by rw [IntKind.wrap_i64]; omega
  clear hm H2
  have hd16 := HD.out
  rcases h4 with rfl | rfl
  · go_enter Tryz.func50, Tryz.ntmps50
    go_wp2_with fail
    clear t0 t1 t2 t3 t4 t5 q0 qa qb qc qd qe hW2
    go_loopw [6] (fun v W => ∃ k : Nat, k ≤ n5 ∧ v = .int .i64 k ∧ Hid (b = true ↔ UnG ns d l p (lastOf un k) (un.drop k)) ∧ Hid (Below W2.heap.size W2 W)) (fun v _ => n5 - (intOf v).toNat)
    case atStart => exact ⟨0, by omega, rfl, HU, Lib.hid (Below.refl _ _)⟩
    case round =>
      clear HU
      obtain ⟨k, hk, rfl, HU, HW⟩ := hrel
      have HBw := Lib.hid (B2.out.trans (HW.out.mono B2.out.size))
      obtain ⟨q0, q1⟩ := (G1.out.below HW.out (by omega)).cs
      obtain ⟨t0, t1, t2, t3, t4, t5⟩ := (G2.out.below HW.out hsz).cs
      by_cases hkm : k < n5
      · have yk : (k : Int) < (n5 : Int) := by omega
        obtain ⟨au, rfl⟩ := HI.out.some (by omega)
        have HIw := Lib.hid (HI.out.below HBw.out)
        have hc := HIw.out.cell k hkm
        have hb := HU.out
        rw [gi_drop un k (by rw [HI.out.len]; exact hkm), unG_cons] at hb
        have hl1 : lastOf un (k + 1) = gi un k := rfl
        generalize gi un k = x at *
        by_cases h0 : x < 0
        · obtain rfl : b = false := by rw [Bool.eq_false_iff]; intro h; have := (hb.1 h).2.2.1.1; omega
          clear hb hl1
          go_wp2
          go_ret
          exact ⟨rfl, HBw.out⟩
        have y0 : ¬ x < 0 := h0
        by_cases h1 : x < (m : Int)
        case neg =>
          have y1 : x ≥ (m : Int) := by omega
          obtain rfl : b = false := by rw [Bool.eq_false_iff]; intro h; have := (hb.1 h).2.2.1.2.1; rw [hm2] at this; omega
          clear hb hl1
          go_wp2
          go_ret
          exact ⟨rfl, HBw.out⟩
        have y1 : ¬ x ≥ (m : Int) := by omega
        obtain ⟨xn, rfl⟩ := Int.eq_ofNat_of_zero_le (Int.not_lt.1 h0)
        have hx2 : 2 * xn < n := by rw [HL.out, Nat.pow_succ, HM.out]; omega
        obtain ⟨j, hj⟩ : ∃ j, j = 2 * xn := ⟨_, rfl⟩
        have x1 : 2 * (xn : Int) = (j : Int) := by omega
        obtain ⟨qq, e1, e2⟩ := (HN.out.below HBw.out).at j (by omega)
        have hj' : (j : Int) < (n : Int) := by omega
        have hth : qq.k = 0 ↔ ¬ There ns d xn := by
          rw [e2.k, hj]
          unfold There
          rw [hm2, Int.toNat_natCast]
          constructor
          · intro h hh; exact hh.2.2 h
          · intro h; apply Classical.byContradiction; intro hh; exact h ⟨by omega, by omega, hh⟩
        have HLT := Lib.hid (show ∀ W', Below wr.heap.size wr W' → W'.cell? (ad.add (j * 6)) = some (.int .i64 qq.k) from fun W' hb' => (e1.of_block (hb'.block _ (by rw [Wr.add_block]; exact ((HN.out.below HBw.out).2.2.2.2.1 ad rfl).2 (by omega)))).cells.1)
        clear e1 e2 hj
        generalize qq.k = kk at *
        by_cases h2 : lastOf un k < (xn : Int)
        case neg =>
          obtain rfl : b = false := by rw [Bool.eq_false_iff]; intro h; exact h2 (hb.1 h).1
          cases k with
          | zero => exfalso; apply h2; show (-1 : Int) < _; omega
          | succ k =>
          have hc2 := HIw.out.cell k (by omega)
          have y2 : gi un k ≥ (xn : Int) := by rw [show lastOf un (k + 1) = gi un k from rfl] at h2; omega
          clear hb hl1 h2
          generalize gi un k = y at *
          have yk0 : ((k + 1 : Nat) : Int) > 0 := by omega
          have yk1 : ((k + 1 : Nat) : Int) - 1 = (k : Int) := by omega
          have yk2 : (k : Int) < (n5 : Int) := by omega
          obtain ⟨k', hk'⟩ : ∃ k', k + 1 = k' := ⟨_, rfl⟩
          rw [hk'] at yk yk0 yk1 hc hkm hk ⊢
          clear hk' HU
          go_wp2
          go_ret
          exact ⟨rfl, HBw.out⟩
        have step : ∀ (C : Prop), (xn < m → C) → C := fun C h => h (by omega)
        by_cases h3 : Under l p (xn : Int)
        case neg =>
          have C1 : Hid (Sp.OvC (Fl.fl l) (Fl.fl p) (xn : Int) false) := Lib.hid (over_iff HS.out _ false (by simp [h3]))
          obtain rfl : b = false := by rw [Bool.eq_false_iff]; intro h; exact h3 (hb.1 h).2.1
          clear hb hl1 h3 hth
          rcases Nat.eq_zero_or_pos k with hk0 | hk0
          · obtain rfl : k = 0 := hk0
            have yz : (0 : Int) < (n5 : Int) := by omega
            have hc' : wr.cell? au = some (.int .i64 (xn : Int)) := by rw [← add_none0 au]; exact hc
            clear h2 yk
            go_wp2_with (first | (go_at_call 77; refine (CA.out _).mono ?_; rintro e' w3 ⟨rfl, hb3⟩; have HW3 := Lib.hid (HW.out.trans (hb3.mono HW.out.size)); have HX3 := Lib.hid hb3; clear hb3) | (go_at_call 76; refine (Sp.rover_c C1.out _).mono ?_; rintro e' w4 ⟨rfl, hb4⟩; have HW4 := Lib.hid (HW3.out.trans (hb4.mono HW3.out.size)); have hx := HLT.out _ (HX3.out.trans (hb4.mono HX3.out.size)); obtain ⟨q0', q1'⟩ := (G1.out.below HW4.out (by omega)).cs; clear hb4) | go_in)
            go_ret
            exact ⟨rfl, (B2.out.trans (HW4.out.mono B2.out.size))⟩
          · have yz : (k : Int) > 0 := by omega
            obtain ⟨k1, hk1⟩ : ∃ k1, k = k1 + 1 := ⟨k - 1, by omega⟩
            have hc2 := HIw.out.cell k1 (by omega)
            have y2 : ¬ gi un k1 ≥ (xn : Int) := by rw [hk1, show lastOf un (k1 + 1) = gi un k1 from rfl] at h2; omega
            have yk1 : (k : Int) - 1 = (k1 : Int) := by omega
            have yk2 : (k1 : Int) < (n5 : Int) := by omega
            clear h2
            generalize gi un k1 = y at hc2 y2
            clear hk1
            go_wp2_with (first | (go_at_call 77; refine (CA.out _).mono ?_; rintro e' w3 ⟨rfl, hb3⟩; have HW3 := Lib.hid (HW.out.trans (hb3.mono HW.out.size)); have HX3 := Lib.hid hb3; clear hb3) | (go_at_call 76; refine (Sp.rover_c C1.out _).mono ?_; rintro e' w4 ⟨rfl, hb4⟩; have HW4 := Lib.hid (HW3.out.trans (hb4.mono HW3.out.size)); have hx := HLT.out _ (HX3.out.trans (hb4.mono HX3.out.size)); obtain ⟨q0', q1'⟩ := (G1.out.below HW4.out (by omega)).cs; clear hb4) | go_in)
            go_ret
            exact ⟨rfl, (B2.out.trans (HW4.out.mono B2.out.size))⟩
        have C1 : Hid (Sp.OvC (Fl.fl l) (Fl.fl p) (xn : Int) true) := Lib.hid (over_iff HS.out _ true (by simp [h3]))
        by_cases h4 : kk = 0
        · have yk0 : (kk == 0) = true := by simp [h4]
          obtain rfl : b = false := by rw [Bool.eq_false_iff]; intro h; exact hth.1 h4 (hb.1 h).2.2.1
          clear hb hl1 h3 hth h4
          rcases Nat.eq_zero_or_pos k with hk0 | hk0
          · obtain rfl : k = 0 := hk0
            have yz : (0 : Int) < (n5 : Int) := by omega
            have hc' : wr.cell? au = some (.int .i64 (xn : Int)) := by rw [← add_none0 au]; exact hc
            clear h2 yk
            go_wp2_with (first | (go_at_call 77; refine (CA.out _).mono ?_; rintro e' w3 ⟨rfl, hb3⟩; have HW3 := Lib.hid (HW.out.trans (hb3.mono HW.out.size)); have HX3 := Lib.hid hb3; clear hb3) | (go_at_call 76; refine (Sp.rover_c C1.out _).mono ?_; rintro e' w4 ⟨rfl, hb4⟩; have HW4 := Lib.hid (HW3.out.trans (hb4.mono HW3.out.size)); have hx := HLT.out _ (HX3.out.trans (hb4.mono HX3.out.size)); obtain ⟨q0', q1'⟩ := (G1.out.below HW4.out (by omega)).cs; clear hb4) | go_in)
            go_ret
            exact ⟨rfl, (B2.out.trans (HW4.out.mono B2.out.size))⟩
          · have yz : (k : Int) > 0 := by omega
            obtain ⟨k1, hk1⟩ : ∃ k1, k = k1 + 1 := ⟨k - 1, by omega⟩
            have hc2 := HIw.out.cell k1 (by omega)
            have y2 : ¬ gi un k1 ≥ (xn : Int) := by rw [hk1, show lastOf un (k1 + 1) = gi un k1 from rfl] at h2; omega
            have yk1 : (k : Int) - 1 = (k1 : Int) := by omega
            have yk2 : (k1 : Int) < (n5 : Int) := by omega
            clear h2
            generalize gi un k1 = y at hc2 y2
            clear hk1
            go_wp2_with (first | (go_at_call 77; refine (CA.out _).mono ?_; rintro e' w3 ⟨rfl, hb3⟩; have HW3 := Lib.hid (HW.out.trans (hb3.mono HW.out.size)); have HX3 := Lib.hid hb3; clear hb3) | (go_at_call 76; refine (Sp.rover_c C1.out _).mono ?_; rintro e' w4 ⟨rfl, hb4⟩; have HW4 := Lib.hid (HW3.out.trans (hb4.mono HW3.out.size)); have hx := HLT.out _ (HX3.out.trans (hb4.mono HX3.out.size)); obtain ⟨q0', q1'⟩ := (G1.out.below HW4.out (by omega)).cs; clear hb4) | go_in)
            go_ret
            exact ⟨rfl, (B2.out.trans (HW4.out.mono B2.out.size))⟩
        · have yk0 : (kk == 0) = false := by simp [h4]
          have HU' : Hid (b = true ↔ UnG ns d l p (lastOf un (k + 1)) (un.drop (k + 1))) := Lib.hid (hb.trans (by
            rw [hl1]
            exact ⟨fun h => h.2.2.2, fun h => ⟨h2, h3, Classical.byContradiction fun hh => h4 (hth.2 hh), h⟩⟩))
          clear hb hl1 h3 hth h4
          rcases Nat.eq_zero_or_pos k with hk0 | hk0
          · obtain rfl : k = 0 := hk0
            have yz : (0 : Int) < (n5 : Int) := by omega
            have hc' : wr.cell? au = some (.int .i64 (xn : Int)) := by rw [← add_none0 au]; exact hc
            clear h2 yk
            go_wp2_with (first | (go_at_call 77; refine (CA.out _).mono ?_; rintro e' w3 ⟨rfl, hb3⟩; have HW3 := Lib.hid (HW.out.trans (hb3.mono HW.out.size)); have HX3 := Lib.hid hb3; clear hb3) | (go_at_call 76; refine (Sp.rover_c C1.out _).mono ?_; rintro e' w4 ⟨rfl, hb4⟩; have HW4 := Lib.hid (HW3.out.trans (hb4.mono HW3.out.size)); have hx := HLT.out _ (HX3.out.trans (hb4.mono HX3.out.size)); obtain ⟨q0', q1'⟩ := (G1.out.below HW4.out (by omega)).cs; clear hb4) | go_in)
            go_roundw
            case rel => exact ⟨0 + 1, by omega, by go_num, HU', HW4⟩
            case measure => simp [intOf]; omega
          · have yz : (k : Int) > 0 := by omega
            obtain ⟨k1, hk1⟩ : ∃ k1, k = k1 + 1 := ⟨k - 1, by omega⟩
            have hc2 := HIw.out.cell k1 (by omega)
            have y2 : ¬ gi un k1 ≥ (xn : Int) := by rw [hk1, show lastOf un (k1 + 1) = gi un k1 from rfl] at h2; omega
            have yk1 : (k : Int) - 1 = (k1 : Int) := by omega
            have yk2 : (k1 : Int) < (n5 : Int) := by omega
            clear h2
            generalize gi un k1 = y at hc2 y2
            clear hk1
            go_wp2_with (first | (go_at_call 77; refine (CA.out _).mono ?_; rintro e' w3 ⟨rfl, hb3⟩; have HW3 := Lib.hid (HW.out.trans (hb3.mono HW.out.size)); have HX3 := Lib.hid hb3; clear hb3) | (go_at_call 76; refine (Sp.rover_c C1.out _).mono ?_; rintro e' w4 ⟨rfl, hb4⟩; have HW4 := Lib.hid (HW3.out.trans (hb4.mono HW3.out.size)); have hx := HLT.out _ (HX3.out.trans (hb4.mono HX3.out.size)); obtain ⟨q0', q1'⟩ := (G1.out.below HW4.out (by omega)).cs; clear hb4) | go_in)
            go_roundw
            case rel => exact ⟨k + 1, by omega, by go_num, HU', HW4⟩
            case measure => simp [intOf]; omega
      · have yk : ¬ (k : Int) < (n5 : Int) := by omega
        obtain rfl : b = true := HU.out.2 (by rw [List.drop_eq_nil_of_le (by rw [HI.out.len]; omega), unG_nil]; trivial)
        go_wp2
        go_ret
        exact ⟨rfl, HBw.out⟩
  · go_enter Tryz.func50, Tryz.ntmps50
    go_wp2_with fail
    clear t0 t1 t2 t3 t4 t5 q0 qa qb qc qd qe hW2
    go_loopw [6] (fun v W => ∃ k : Nat, k ≤ n5 ∧ v = .int .i64 k ∧ Hid (b = true ↔ UnG ns d l p (lastOf un k) (un.drop k)) ∧ Hid (Below W2.heap.size W2 W)) (fun v _ => n5 - (intOf v).toNat)
    case atStart => exact ⟨0, by omega, rfl, HU, Lib.hid (Below.refl _ _)⟩
    case round =>
      clear HU
      obtain ⟨k, hk, rfl, HU, HW⟩ := hrel
      have HBw := Lib.hid (B2.out.trans (HW.out.mono B2.out.size))
      obtain ⟨q0, q1⟩ := (G1.out.below HW.out (by omega)).cs
      obtain ⟨t0, t1, t2, t3, t4, t5⟩ := (G2.out.below HW.out hsz).cs
      by_cases hkm : k < n5
      · have yk : (k : Int) < (n5 : Int) := by omega
        obtain ⟨au, rfl⟩ := HI.out.some (by omega)
        have HIw := Lib.hid (HI.out.below HBw.out)
        have hc := HIw.out.cell k hkm
        have hb := HU.out
        rw [gi_drop un k (by rw [HI.out.len]; exact hkm), unG_cons] at hb
        have hl1 : lastOf un (k + 1) = gi un k := rfl
        generalize gi un k = x at *
        by_cases h0 : x < 0
        · obtain rfl : b = false := by rw [Bool.eq_false_iff]; intro h; have := (hb.1 h).2.2.1.1; omega
          clear hb hl1
          go_wp2
          go_ret
          exact ⟨rfl, HBw.out⟩
        have y0 : ¬ x < 0 := h0
        by_cases h1 : x < (m : Int)
        case neg =>
          have y1 : x ≥ (m : Int) := by omega
          obtain rfl : b = false := by rw [Bool.eq_false_iff]; intro h; have := (hb.1 h).2.2.1.2.1; rw [hm2] at this; omega
          clear hb hl1
          go_wp2
          go_ret
          exact ⟨rfl, HBw.out⟩
        have y1 : ¬ x ≥ (m : Int) := by omega
        obtain ⟨xn, rfl⟩ := Int.eq_ofNat_of_zero_le (Int.not_lt.1 h0)
        have hx2 : 2 * xn < n := by rw [HL.out, Nat.pow_succ, HM.out]; omega
        obtain ⟨j, hj⟩ : ∃ j, j = 2 * xn := ⟨_, rfl⟩
        have x1 : 2 * (xn : Int) = (j : Int) := by omega
        obtain ⟨qq, e1, e2⟩ := (HN.out.below HBw.out).at j (by omega)
        have hj' : (j : Int) < (n : Int) := by omega
        have hth : qq.k = 0 ↔ ¬ There ns d xn := by
          rw [e2.k, hj]
          unfold There
          rw [hm2, Int.toNat_natCast]
          constructor
          · intro h hh; exact hh.2.2 h
          · intro h; apply Classical.byContradiction; intro hh; exact h ⟨by omega, by omega, hh⟩
        have HLT := Lib.hid (show ∀ W', Below wr.heap.size wr W' → W'.cell? (ad.add (j * 6)) = some (.int .i64 qq.k) from fun W' hb' => (e1.of_block (hb'.block _ (by rw [Wr.add_block]; exact ((HN.out.below HBw.out).2.2.2.2.1 ad rfl).2 (by omega)))).cells.1)
        clear e1 e2 hj
        generalize qq.k = kk at *
        by_cases h2 : lastOf un k < (xn : Int)
        case neg =>
          obtain rfl : b = false := by rw [Bool.eq_false_iff]; intro h; exact h2 (hb.1 h).1
          cases k with
          | zero => exfalso; apply h2; show (-1 : Int) < _; omega
          | succ k =>
          have hc2 := HIw.out.cell k (by omega)
          have y2 : gi un k ≥ (xn : Int) := by rw [show lastOf un (k + 1) = gi un k from rfl] at h2; omega
          clear hb hl1 h2
          generalize gi un k = y at *
          have yk0 : ((k + 1 : Nat) : Int) > 0 := by omega
          have yk1 : ((k + 1 : Nat) : Int) - 1 = (k : Int) := by omega
          have yk2 : (k : Int) < (n5 : Int) := by omega
          obtain ⟨k', hk'⟩ : ∃ k', k + 1 = k' := ⟨_, rfl⟩
          rw [hk'] at yk yk0 yk1 hc hkm hk ⊢
          clear hk' HU
          go_wp2
          go_ret
          exact ⟨rfl, HBw.out⟩
        have step : ∀ (C : Prop), (xn < m → C) → C := fun C h => h (by omega)
        by_cases h3 : Under l p (xn : Int)
        case neg =>
          have C1 : Hid (Sp.OvC (Fl.fl l) (Fl.fl p) (xn : Int) false) := Lib.hid (over_iff HS.out _ false (by simp [h3]))
          obtain rfl : b = false := by rw [Bool.eq_false_iff]; intro h; exact h3 (hb.1 h).2.1
          clear hb hl1 h3 hth
          rcases Nat.eq_zero_or_pos k with hk0 | hk0
          · obtain rfl : k = 0 := hk0
            have yz : (0 : Int) < (n5 : Int) := by omega
            have hc' : wr.cell? au = some (.int .i64 (xn : Int)) := by rw [← add_none0 au]; exact hc
            clear h2 yk
            go_wp2_with (first | (go_at_call 77; refine (CA.out _).mono ?_; rintro e' w3 ⟨rfl, hb3⟩; have HW3 := Lib.hid (HW.out.trans (hb3.mono HW.out.size)); have HX3 := Lib.hid hb3; clear hb3) | (go_at_call 76; refine (Sp.rover_c C1.out _).mono ?_; rintro e' w4 ⟨rfl, hb4⟩; have HW4 := Lib.hid (HW3.out.trans (hb4.mono HW3.out.size)); have hx := HLT.out _ (HX3.out.trans (hb4.mono HX3.out.size)); obtain ⟨q0', q1'⟩ := (G1.out.below HW4.out (by omega)).cs; clear hb4) | go_in)
            go_ret
            exact ⟨rfl, (B2.out.trans (HW4.out.mono B2.out.size))⟩
          · have yz : (k : Int) > 0 := by omega
            obtain ⟨k1, hk1⟩ : ∃ k1, k = k1 + 1 := ⟨k - 1, by omega⟩
            have hc2 := HIw.out.cell k1 (by omega)
            have y2 : ¬ gi un k1 ≥ (xn : Int) := by rw [hk1, show lastOf un (k1 + 1) = gi un k1 from rfl] at h2; omega
            have yk1 : (k : Int) - 1 = (k1 : Int) := by omega
            have yk2 : (k1 : Int) < (n5 : Int) := by omega
            clear h2
            generalize gi un k1 = y at hc2 y2
            clear hk1
            go_wp2_with (first | (go_at_call 77; refine (CA.out _).mono ?_; rintro e' w3 ⟨rfl, hb3⟩; have HW3 := Lib.hid (HW.out.trans (hb3.mono HW.out.size)); have HX3 := Lib.hid hb3; clear hb3) | (go_at_call 76; refine (Sp.rover_c C1.out _).mono ?_; rintro e' w4 ⟨rfl, hb4⟩; have HW4 := Lib.hid (HW3.out.trans (hb4.mono HW3.out.size)); have hx := HLT.out _ (HX3.out.trans (hb4.mono HX3.out.size)); obtain ⟨q0', q1'⟩ := (G1.out.below HW4.out (by omega)).cs; clear hb4) | go_in)
            go_ret
            exact ⟨rfl, (B2.out.trans (HW4.out.mono B2.out.size))⟩
        have C1 : Hid (Sp.OvC (Fl.fl l) (Fl.fl p) (xn : Int) true) := Lib.hid (over_iff HS.out _ true (by simp [h3]))
        by_cases h4 : kk = 0
        · have yk0 : (kk == 0) = true := by simp [h4]
          obtain rfl : b = false := by rw [Bool.eq_false_iff]; intro h; exact hth.1 h4 (hb.1 h).2.2.1
          clear hb hl1 h3 hth h4
          rcases Nat.eq_zero_or_pos k with hk0 | hk0
          · obtain rfl : k = 0 := hk0
            have yz : (0 : Int) < (n5 : Int) := by omega
            have hc' : wr.cell? au = some (.int .i64 (xn : Int)) := by rw [← add_none0 au]; exact hc
            clear h2 yk
            go_wp2_with (first | (go_at_call 77; refine (CA.out _).mono ?_; rintro e' w3 ⟨rfl, hb3⟩; have HW3 := Lib.hid (HW.out.trans (hb3.mono HW.out.size)); have HX3 := Lib.hid hb3; clear hb3) | (go_at_call 76; refine (Sp.rover_c C1.out _).mono ?_; rintro e' w4 ⟨rfl, hb4⟩; have HW4 := Lib.hid (HW3.out.trans (hb4.mono HW3.out.size)); have hx := HLT.out _ (HX3.out.trans (hb4.mono HX3.out.size)); obtain ⟨q0', q1'⟩ := (G1.out.below HW4.out (by omega)).cs; clear hb4) | go_in)
            go_ret
            exact ⟨rfl, (B2.out.trans (HW4.out.mono B2.out.size))⟩
          · have yz : (k : Int) > 0 := by omega
            obtain ⟨k1, hk1⟩ : ∃ k1, k = k1 + 1 := ⟨k - 1, by omega⟩
            have hc2 := HIw.out.cell k1 (by omega)
            have y2 : ¬ gi un k1 ≥ (xn : Int) := by rw [hk1, show lastOf un (k1 + 1) = gi un k1 from rfl] at h2; omega
            have yk1 : (k : Int) - 1 = (k1 : Int) := by omega
            have yk2 : (k1 : Int) < (n5 : Int) := by omega
            clear h2
            generalize gi un k1 = y at hc2 y2
            clear hk1
            go_wp2_with (first | (go_at_call 77; refine (CA.out _).mono ?_; rintro e' w3 ⟨rfl, hb3⟩; have HW3 := Lib.hid (HW.out.trans (hb3.mono HW.out.size)); have HX3 := Lib.hid hb3; clear hb3) | (go_at_call 76; refine (Sp.rover_c C1.out _).mono ?_; rintro e' w4 ⟨rfl, hb4⟩; have HW4 := Lib.hid (HW3.out.trans (hb4.mono HW3.out.size)); have hx := HLT.out _ (HX3.out.trans (hb4.mono HX3.out.size)); obtain ⟨q0', q1'⟩ := (G1.out.below HW4.out (by omega)).cs; clear hb4) | go_in)
            go_ret
            exact ⟨rfl, (B2.out.trans (HW4.out.mono B2.out.size))⟩
        · have yk0 : (kk == 0) = false := by simp [h4]
          have HU' : Hid (b = true ↔ UnG ns d l p (lastOf un (k + 1)) (un.drop (k + 1))) := Lib.hid (hb.trans (by
            rw [hl1]
            exact ⟨fun h => h.2.2.2, fun h => ⟨h2, h3, Classical.byContradiction fun hh => h4 (hth.2 hh), h⟩⟩))
          clear hb hl1 h3 hth h4
          rcases Nat.eq_zero_or_pos k with hk0 | hk0
          · obtain rfl : k = 0 := hk0
            have yz : (0 : Int) < (n5 : Int) := by omega
            have hc' : wr.cell? au = some (.int .i64 (xn : Int)) := by rw [← add_none0 au]; exact hc
            clear h2 yk
            go_wp2_with (first | (go_at_call 77; refine (CA.out _).mono ?_; rintro e' w3 ⟨rfl, hb3⟩; have HW3 := Lib.hid (HW.out.trans (hb3.mono HW.out.size)); have HX3 := Lib.hid hb3; clear hb3) | (go_at_call 76; refine (Sp.rover_c C1.out _).mono ?_; rintro e' w4 ⟨rfl, hb4⟩; have HW4 := Lib.hid (HW3.out.trans (hb4.mono HW3.out.size)); have hx := HLT.out _ (HX3.out.trans (hb4.mono HX3.out.size)); obtain ⟨q0', q1'⟩ := (G1.out.below HW4.out (by omega)).cs; clear hb4) | go_in)
            go_roundw
            case rel => exact ⟨0 + 1, by omega, by go_num, HU', HW4⟩
            case measure => simp [intOf]; omega
          · have yz : (k : Int) > 0 := by omega
            obtain ⟨k1, hk1⟩ : ∃ k1, k = k1 + 1 := ⟨k - 1, by omega⟩
            have hc2 := HIw.out.cell k1 (by omega)
            have y2 : ¬ gi un k1 ≥ (xn : Int) := by rw [hk1, show lastOf un (k1 + 1) = gi un k1 from rfl] at h2; omega
            have yk1 : (k : Int) - 1 = (k1 : Int) := by omega
            have yk2 : (k1 : Int) < (n5 : Int) := by omega
            clear h2
            generalize gi un k1 = y at hc2 y2
            clear hk1
            go_wp2_with (first | (go_at_call 77; refine (CA.out _).mono ?_; rintro e' w3 ⟨rfl, hb3⟩; have HW3 := Lib.hid (HW.out.trans (hb3.mono HW.out.size)); have HX3 := Lib.hid hb3; clear hb3) | (go_at_call 76; refine (Sp.rover_c C1.out _).mono ?_; rintro e' w4 ⟨rfl, hb4⟩; have HW4 := Lib.hid (HW3.out.trans (hb4.mono HW3.out.size)); have hx := HLT.out _ (HX3.out.trans (hb4.mono HX3.out.size)); obtain ⟨q0', q1'⟩ := (G1.out.below HW4.out (by omega)).cs; clear hb4) | go_in)
            go_roundw
            case rel => exact ⟨k + 1, by omega, by go_num, HU', HW4⟩
            case measure => simp [intOf]; omega
      · have yk : ¬ (k : Int) < (n5 : Int) := by omega
        obtain rfl : b = true := HU.out.2 (by rw [List.drop_eq_nil_of_le (by rw [HI.out.len]; omega), unG_nil]; trivial)
        go_wp2
        go_ret
        exact ⟨rfl, HBw.out⟩
end Go.Proofs.YtakglldffpnlaaaGreatDoor.Rt
