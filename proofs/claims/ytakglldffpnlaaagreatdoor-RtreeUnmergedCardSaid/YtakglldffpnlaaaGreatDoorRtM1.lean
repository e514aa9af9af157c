/- Walks: known, its iterator; below. Walks: below, resolution and its iterator. Walks: resolution's own iterator, which goes down. Walks: resolution; AppendSeq, Collect, Resolve. Walks: AppendSeq, Collect, Resolve. -/
import Derived.Test.YtakglldffpnlaaaGreatDoorRtWalkE
import Derived.Test.YtakglldffpnlaaaGreatDoorIterD
namespace Go.Proofs.YtakglldffpnlaaaGreatDoor.Rt
set_option linter.all false
open Go.RowKit Iter
open Wr (Txt Any New)
attribute [local go_sem] Oper.semAt_some

theorem Ints.keptX {X : Nat → Prop} {S : Nat → Prop} {w w' : World} {A : Option Addr} {n c : Nat} {xs : List Int} (h : Ints S w A n c xs) (hk : Kept X w w') (hS : 0 < n → ∀ ad, A = .some ad → ¬ X ad.block) : Ints S w' A n c xs := by
  obtain ⟨h1, h2, h3, h4, h5, h6⟩ := h
  have hs := hk.size
  refine ⟨h1, h2, h3, h4, fun ad e => ⟨(h5 ad e).1, fun hn => by have := (h5 ad e).2 hn; omega⟩, fun ad e j hj => ?_⟩
  have hbl : (ad.add j).block = ad.block := by unfold Addr.add; split <;> rfl
  rw [World.cell?_of_block (hk.block (ad.add j).block (by rw [hbl]; exact (h5 ad e).2 (by omega)) (by rw [hbl]; exact hS (by omega) ad e))]
  exact h6 ad e j hj
theorem kept_cell {X : Nat → Prop} {w w' : World} {p : Addr} {v : Value} (hk : Kept X w w') (h : w.cell? p = some v) (hx : ¬ X p.block) : w'.cell? p = some v :=
  (World.cell?_of_block (hk.block p.block (block_lt_of_cell h) hx)).trans h

/-- what a yield is shown to do -/
def Yields (l cnt : Nat) (val : Nat → Array Value) (J Jx : Nat → (Nat → Prop) → World → Prop) : Prop :=
  ∀ k Y W1, k < cnt → J k Y W1 → YieldAt Fence.wide 0 Tryz.prog l (val k) W1 fun e W' => ∃ Y', (∀ b, Y' b → (Y b ∨ W1.heap.size ≤ b) ∧ b < W'.heap.size) ∧ Kept Y W1 W' ∧
      ((e = .returned (.bool true) ∧ J (k + 1) Y' W') ∨ (e = .returned (.bool false) ∧ Jx (k + 1) Y' W'))

set_option maxHeartbeats 4000000 in
set_option maxRecDepth 100000 in
theorem known_hands (b1 b2 i : Nat) (U : Option Addr) (m cu : Nat) (un : List Int) (X : Nat → Prop) (w : World)
    (hX : ∀ k, X k → k ≠ b1 ∧ k ≠ b2 ∧ (0 < m → ∀ ad, U = some ad → k ≠ ad.block)) (hc1 : w.cell? ⟨b1, 0, none⟩ = some (.int .i64 i)) (hc2 : w.cell? ⟨b2, 0, none⟩ = some (.slice U m cu))
    (hU : Ints Any w U m cu un) (hun : ∀ x ∈ un, 0 ≤ x ∧ x < 65536) :
    HandsD Tryz.prog 107 #[.pointer (some ⟨b1, 0, none⟩), .pointer (some ⟨b2, 0, none⟩)] (m + 1) (fun k => #[.int .i64 (gi ((i : Int) :: un.map (2 * ·)) k)]) X w := by
  intro l J Jx W Y0 hW hsz hJ hJx hY h0 h0X
  have HC1 := Lib.hid ((hW.cell (p := ⟨b1, 0, none⟩) (block_lt_of_cell hc1)).trans hc1)
  have HC2 := Lib.hid ((hW.cell (p := ⟨b2, 0, none⟩) (block_lt_of_cell hc2)).trans hc2)
  have HU := Lib.hid (hU.below hW)
  have hm63 : m ≤ 9223372036854775807 := by have h1 := hU.2.1; have h2 := hU.2.2.1; omega
  have HY : Hid (Yields l (m + 1) (fun k => #[.int .i64 (gi ((i : Int) :: un.map (2 * ·)) k)]) J Jx) := Lib.hid hY
  have HX := Lib.hid hX; have HUN := Lib.hid hun
  have HUL := Lib.hid hU.len
  have c1 := HC1.out
  have h00 := hY 0 Y0 W (by omega) h0
  have H0X := Lib.hid h0X
  clear hJ hJx hY h0 hX hc1 hc2 hU hW hun h0X
  obtain ⟨fn, tmps, assign, body, hy, hRr⟩ := h00
  have HR9 := Lib.hid hRr
  clear hRr
  have e0 : gi ((i : Int) :: un.map (2 * ·)) 0 = i := rfl
  dsimp only at hy
  rw [e0] at hy
  refine callsIn_of_wp Tryz.func107 rfl trivial ?_ rfl
  simp only [Tryz.ntmps107, List.size_toArray, List.length_cons, List.length_nil, Nat.reduceAdd, Nat.reduceSub, Array.replicate_succ, Array.replicate_zero, List.push_toArray, List.append_toArray, List.nil_append, List.cons_append]
  gi_wp2_with fail
  refine ⟨rfl, HR9.out.mono ?_⟩
  rintro e' W6 ⟨Y1, hy1, hK1, (⟨rfl, hJ1⟩ | ⟨rfl, hJ1⟩)⟩
  · have HJ1 := Lib.hid hJ1
    have HK1 : Hid (Kept X W W6) := Lib.hid (hK1.mono fun b hb => (H0X.out b hb).1)
    have HY1 : Hid (∀ b, Y1 b → X b ∨ W.heap.size ≤ b) := Lib.hid fun b hb => (hy1 b hb).1.imp (fun h => (H0X.out b h).1) id
    clear hJ1 hK1 hy1 hy HR9 c1
    have c2 := kept_cell HK1.out HC2.out (fun e => (HX.out _ e).2.1 rfl)
    have hU6 := HU.out.keptX HK1.out (fun h0 ad e h => (HX.out _ h).2.2 h0 ad e rfl)
    gi_wp2
    gi_loopw [12] (fun v W' => ∃ (k : Nat) (Y : Nat → Prop), k ≤ m ∧ v = .int .i64 k ∧ Hid (J (k + 1) Y W') ∧ Hid (Kept X W W') ∧ Hid (∀ b, Y b → X b ∨ W.heap.size ≤ b)) (fun v _ => m - (intOf v).toNat)
    case atStart => exact ⟨0, Y1, by omega, rfl, HJ1, HK1, HY1⟩
    case round =>
      clear HJ1 HK1 HY1 c2 hU6
      obtain ⟨k, Y, hk, rfl, HJ1, HK1, HY1⟩ := hrel
      by_cases hkm : k < m
      · have yk : (k : Int) < (m : Int) := by omega
        have hU7 := HU.out.keptX HK1.out (fun h0 ad e h => (HX.out _ h).2.2 h0 ad e rfl)
        obtain ⟨ad, rfl⟩ := hU7.some (by omega)
        have hc := hU7.cell k hkm
        have hx := HUN.out (gi un k) (gi_mem (by rw [HUL.out]; exact hkm))
        have hg : gi ((i : Int) :: un.map (2 * ·)) (k + 1) = 2 * gi un k := by
          unfold gi
          rw [List.getD_eq_getElem?_getD, List.getD_eq_getElem?_getD, List.getElem?_cons_succ, List.getElem?_map, List.getElem?_eq_getElem (by rw [HUL.out]; exact hkm)]; rfl
        have hYk := HY.out (k + 1) Y wr (by omega) HJ1.out
        dsimp only at hYk
        rw [hg] at hYk
        obtain ⟨fn, tmps, assign, body, hy, hRr⟩ := hYk
        obtain ⟨x, hxx⟩ : ∃ x, gi un k = x := ⟨_, rfl⟩
        rw [hxx] at hc hx hy hg
        have HR9 := Lib.hid hRr
        clear hRr hU7 hg hxx
        have x2 : IntKind.i64.wrap (2 * x) = 2 * x := by rw [IntKind.wrap_i64]; omega
        clear hx
        gi_wp2_with fail
        refine ⟨rfl, HR9.out.mono ?_⟩
        rintro e' W7 ⟨Y2, hy2, hK2, (⟨rfl, hJ2⟩ | ⟨rfl, hJ2⟩)⟩
        · have HJ2 := Lib.hid hJ2
          have HK2 : Hid (Kept X W W7) := Lib.hid ⟨hK2.os.trans HK1.out.os, hK2.tape.trans HK1.out.tape, hK2.output.trans HK1.out.output, Nat.le_trans HK1.out.size hK2.size, fun b hb hx => (hK2.block b (Nat.lt_of_lt_of_le hb HK1.out.size) (fun h => by rcases HY1.out b h with h | h; { exact hx h }; { omega })).trans (HK1.out.block b hb hx)⟩
          have HY2 : Hid (∀ b, Y2 b → X b ∨ W.heap.size ≤ b) := Lib.hid fun b hb => by
            rcases (hy2 b hb).1 with h | h
            · exact HY1.out b h
            · right; have := HK1.out.size; omega
          clear hJ2 hK2 hy2 hy HR9 hc
          gi_wp2
          go_roundw
          case rel => exact ⟨k + 1, Y2, by omega, by go_num, HJ2, HK2, HY2⟩
          case measure => simp [intOf]; omega
        · have HJ2 := Lib.hid hJ2
          clear hJ2 hK2 hy2 hy HR9 hc
          gi_wp2
          refine bodyPost_ret (results_none rfl _ _ _) rfl ?_
          exact ⟨⟨_, rfl⟩, Y2, .inr ⟨_, by omega, HJ2.out⟩⟩
      · have yk : ¬ (k : Int) < (m : Int) := by omega
        obtain rfl : k = m := by omega
        gi_wp2
        go_end0
        exact ⟨⟨_, rfl⟩, Y, .inl HJ1.out⟩
  · have HJ1 := Lib.hid hJ1
    clear hJ1 hK1 hy1 hy HR9 c1
    gi_wp2
    refine bodyPost_ret (results_none rfl _ _ _) rfl ?_
    exact ⟨⟨_, rfl⟩, Y1, .inr ⟨_, by omega, HJ1.out⟩⟩
theorem known_any (i : Int) (U : Option Addr) (m cu : Nat) (w : World) :
    Calls Tryz.prog 80 #[.int .i64 i, .slice U m cu] w fun e w' => e = .returned (.func (.func 107) #[] #[.pointer (some ⟨w.heap.size, 0, none⟩), .pointer (some ⟨w.heap.size + 1, 0, none⟩)]) ∧
      w' = (w.alloc (.cells #[.int .i64 i] 3)).alloc (.cells #[.slice U m cu] 26) := by
  go_enter Tryz.func80, Tryz.ntmps80
  go_wp2
  go_ret
  exact ⟨rfl, rfl⟩
end Go.Proofs.YtakglldffpnlaaaGreatDoor.Rt

namespace Go.Proofs.YtakglldffpnlaaaGreatDoor.Rt
set_option linter.all false
open Go.RowKit Iter
open Wr (Txt Any New)
attribute [local go_sem] Oper.semAt_some

theorem order_zero {re im l p : Nat} (h : Sp.Is re im (some (l, p))) : FloatKind.f64.format.order re 0 = some (compare l 0) := by
  have hs : Sp.Spot re im 16 l p := h
  have h0 : Fl.Nz 0 0 := by have := Fl.nz_fl 0; rwa [Fl.fl0] at this
  exact Fl.order_nz hs.re h0 (by have := hs.lev; omega) (by omega)
theorem down_to {re im l p : Nat} (h : Sp.Is re im (some (l + 1, p))) (r : Bool) : Sp.DnC re im r (Fl.fl l) (Fl.fl (2 * p + if r then 1 else 0)) := by
  refine ⟨_, h, ?_⟩
  show Sp.Ws (if l + 1 = 0 then (0, 0) else (l + 1 - 1, 2 * p + (if r then 1 else 0))) _ _
  rw [if_neg (by omega)]
  exact ⟨rfl, rfl⟩
theorem below_leaf (re im p : Nat) (w : World) (h : Sp.Is re im (some (0, p))) :
    Calls Tryz.prog 82 #[.complex .f64 re im] w fun e w' => e = .returned (.slice none 0 0) ∧ w = w' := by
  have o := order_zero h
  rw [show compare 0 0 = Ordering.eq from rfl] at o
  clear h
  go_enter Tryz.func82, Tryz.ntmps82
  go_wp2
  go_ret
  exact ⟨rfl, rfl⟩
theorem below_node (re im l p : Nat) (w : World) (h : Sp.Is re im (some (l + 1, p))) :
    Calls Tryz.prog 82 #[.complex .f64 re im] w fun e w' => e = .returned (.slice (some ⟨w.heap.size, 0, none⟩) 2 2) ∧
      w' = w.alloc (.cells #[.complex .f64 (Fl.fl l) (Fl.fl (2 * p)), .complex .f64 (Fl.fl l) (Fl.fl (2 * p + 1))] 48) := by
  have o := order_zero h
  rw [show compare (l + 1) 0 = Ordering.gt from Nat.compare_eq_gt.2 (by omega)] at o
  have H1 : Hid (Sp.DnC re im false (Fl.fl l) (Fl.fl (2 * p))) := Lib.hid (down_to h false)
  have H2 : Hid (Sp.DnC re im true (Fl.fl l) (Fl.fl (2 * p + 1))) := Lib.hid (down_to h true)
  obtain ⟨x, hx⟩ : ∃ x, Fl.fl l = x := ⟨_, rfl⟩
  obtain ⟨y, hy⟩ : ∃ x, Fl.fl (2 * p) = x := ⟨_, rfl⟩
  obtain ⟨z, hz⟩ : ∃ x, Fl.fl (2 * p + 1) = x := ⟨_, rfl⟩
  rw [hx, hy] at H1
  rw [hx, hz] at H2
  rw [hx, hy, hz]
  clear h hx hy hz
  go_enter Tryz.func82, Tryz.ntmps82
  go_wp2_with (first | (go_at_call 108; refine (Sp.down_c (by first | exact H1.out | exact H2.out) _).mono ?_; rintro e' w' ⟨rfl, rfl⟩) | go_in)
  go_ret
  exact ⟨rfl, rfl⟩
theorem is_half {d l p : Nat} (hl : l + 1 ≤ d) (hp : p < 2 ^ (d - (l + 1))) (hd : d ≤ 16) (r : Nat) (hr : r < 2) : Sp.Is (Fl.fl l) (Fl.fl (2 * p + r)) (some (l, 2 * p + r)) := by
  obtain ⟨p1, p2⟩ := half_lt hl hp
  have h16 : 2 ^ (d - l) ≤ 2 ^ (16 - l) := Nat.pow_le_pow_right (by decide) (show d - l ≤ 16 - l by omega)
  exact is_spot _ _ (by omega) (by omega)
theorem idx_c {re im l p : Nat} (h : Sp.Is re im (some (l, p))) : Sp.IdxC re im (idx l p : Nat) := by
  refine ⟨_, h, ?_⟩
  show (((2 * p + 1 : Nat) : Int)) * 2 ^ l - 1 = _
  have := idx_succ l p
  have e : (((2 * p + 1 : Nat) : Int)) * 2 ^ l = ((2 ^ l * (2 * p + 1) : Nat) : Int) := by rw [Int.natCast_mul, Int.mul_comm]; simp
  rw [e]
  omega

/-- what hands over these numbers -/
def Tells (gf : FuncId) (lb : Array Value) (xs : List Int) (X : Nat → Prop) (w : World) : Prop := HandsD Tryz.prog gf lb xs.length (fun k => #[.int .i64 (gi xs k)]) X w
/-- a resolution, told: a function that hands over what stands for the spot, as long as nobody turns what it has of its own, nor what was there -/
def Resolved (N : Nat) (xs : List Int) (w : World) (e : Ending) (w' : World) : Prop :=
  ∃ gf lb, e = .returned (.func (.func gf) #[] lb) ∧ (∀ args w, (callFunc gf args).run Tryz.prog w = .ok (.enter gf args) w) ∧ Below w.heap.size w w' ∧
    ∀ w'' X, Below w'.heap.size w' w'' → (∀ b, X b → N ≤ b ∧ (b < w.heap.size ∨ w'.heap.size ≤ b)) → Tells gf lb xs X w''

theorem known_resolved {N i : Nat} {U : Option Addr} {m cu : Nat} {un : List Int} {w w3 w2 : World} (hw2 : w2 = (w3.alloc (.cells #[.int .i64 i] 3)).alloc (.cells #[.slice U m cu] 26)) (g : Nat) (hg : w3.heap.size = g) (hb3 : Below w.heap.size w w3)
    (hU : Ints Any w3 U m cu un) (hUN : 0 < m → ∀ ad, U = some ad → ad.block < N) (hN : N ≤ w.heap.size) (hun : ∀ x ∈ un, 0 ≤ x ∧ x < 65536) (xs : List Int) (hxs : (i : Int) :: un.map (2 * ·) = xs) :
    Resolved N xs w (.returned (.func (.func 107) #[] #[.pointer (some ⟨g, 0, none⟩), .pointer (some ⟨g + 1, 0, none⟩)])) w2 := by
  subst hg
  have hb2 : Below w3.heap.size w3 w2 := by rw [hw2]; exact ((Below.refl _ _).alloc (Nat.le_refl _) _).alloc (by simp) _
  have k1 : w2.cell? ⟨w3.heap.size, 0, none⟩ = some (.int .i64 i) := by
    rw [hw2, World.cell?_of_block (w := w3.alloc (.cells #[.int .i64 i] 3)) (Below.heap_alloc _ _ _ (by simp))]
    exact cell_of_row _ _ 0 _ _ _ (heap_alloc_last w3 _)
  have k2 : w2.cell? ⟨w3.heap.size + 1, 0, none⟩ = some (.slice U m cu) := by
    have := heap_alloc_last (w3.alloc (.cells #[.int .i64 i] 3)) (.cells #[.slice U m cu] 26)
    rw [World.size_alloc] at this
    rw [hw2]
    exact cell_of_row _ _ 0 _ _ _ this
  have hs3 := hb3.size
  have hbw : Below w.heap.size w w2 := hb3.trans (hb2.mono hs3)
  have hs2 : w2.heap.size = w3.heap.size + 2 := by rw [hw2]; simp
  refine ⟨_, _, rfl, enters_of Tryz.func107 (by kernel_rfl) rfl, hbw, fun w'' X hb'' hX => ?_⟩
  have := known_hands w3.heap.size (w3.heap.size + 1) i U m cu un X w'' (fun b hb => by
    have := hX b hb
    refine ⟨by omega, by omega, fun h0 ad' e => ?_⟩
    have := hUN h0 ad' e
    omega) ((hb''.cell (p := ⟨w3.heap.size, 0, none⟩) (by show w3.heap.size < _; omega)).trans k1) ((hb''.cell (p := ⟨w3.heap.size + 1, 0, none⟩) (by show w3.heap.size + 1 < _; omega)).trans k2)
    ((hU.below hb2).below hb'') hun
  unfold Tells
  rw [← hxs]
  rw [List.length_cons, List.length_map, hU.len]
  exact this

set_option maxHeartbeats 4000000 in
set_option maxRecDepth 100000 in
theorem resolution_known (d : Nat) (A : Option Addr) (n c : Nat) (ns : List Nd) (w0 : World) (hN : Nodes Any Any w0 A n c ns) (hR : Right ns d) (l p re im : Nat) (hl : l ≤ d) (hp : p < 2 ^ (d - l)) (hs : Sp.Is re im (some (l, p))) (hk : ¬ (nd ns (idx l p)).kind = 0)
    (w : World) (hB : Below w0.heap.size w0 w) (xs : List Int) (hxs : knownF (idx l p) (nd ns (idx l p)) = xs) :
    Calls Tryz.prog 56 #[.agg #[.int .i64 d, .slice A n c], .complex .f64 re im] w (Resolved w0.heap.size xs w) := by
  have hi := idx_lt hl hp
  rw [← hR.len, hN.len] at hi
  have C1 := Lib.hid (idx_c hs)
  obtain ⟨ad, rfl⟩ := hN.some (by omega)
  obtain ⟨q, q1, q2⟩ := hN.at (idx l p) hi
  have hlt0 : ad.block < w0.heap.size := (hN.2.2.2.2.1 ad rfl).2 (by omega)
  have hlt : ad.block < w.heap.size := by have := hB.size; omega
  have hi' : ((idx l p : Nat) : Int) < (n : Int) := by omega
  have hun : ∀ x ∈ (nd ns (idx l p)).un, 0 ≤ x ∧ x < 65536 := by
    intro x hx
    have hh := hR.each l p hl hp
    have hd6 := hR.deep
    revert hx hh
    generalize nd ns (idx l p) = nn
    intro hx hh
    cases hh with
    | bl e => rw [e] at hx; cases hx
    | lf _ k => rw [k.un] at hx; cases hx
    | nod _ _ k =>
      obtain ⟨h1, h2, _⟩ := (k.each x hx).2
      rw [pow_eq] at h2
      have := (pow_bd d (by omega)).2
      omega
  have HU := Lib.hid (q2.un)
  have hb1 : Below w.heap.size w ((w.alloc (.cells #[.int .i64 d, .slice (some ad) n c] 24)).alloc (.cells #[.complex .f64 re im] 48)) := ((Below.refl _ _).alloc (Nat.le_refl _) _).alloc (by simp) _
  obtain ⟨w1, hw1⟩ : ∃ w1, ((w.alloc (.cells #[.int .i64 d, .slice (some ad) n c] 24)).alloc (.cells #[.complex .f64 re im] 48)) = w1 := ⟨_, rfl⟩
  rw [hw1] at hb1
  have hs1 : w1.heap.size = w.heap.size + 2 := by rw [← hw1]; simp
  have r0 : w1.cell? ⟨w.heap.size + 1, 0, none⟩ = some (.complex .f64 re im) := by
    have := heap_alloc_last (w.alloc (.cells #[.int .i64 d, .slice (some ad) n c] 24)) (.cells #[.complex .f64 re im] 48)
    rw [World.size_alloc, hw1] at this
    exact cell_of_row _ _ 0 _ _ _ this
  have g1 : TrB d (some ad) n c w1 w.heap.size := by
    rw [← hw1]; exact (Below.heap_alloc _ _ _ (by simp)).trans (heap_alloc_last w _)
  have r1 := g1.cs.2
  obtain ⟨q0, qa, qb, qc, qd, qe⟩ := ((q1.of_block (w' := w) (hB.block _ (by rw [Wr.add_block]; exact hlt0))).of_block (w' := w1) (hb1.block _ (by rw [Wr.add_block]; exact hlt))).cells
  have hb2 : Below w.heap.size w (w1.alloc (.cells q.cs 28)) := hb1.alloc hb1.size _
  have g2 : NdB q.k q.A1 q.n1 q.c1 q.A2 q.n2 q.c2 q.A3 q.n3 q.c3 q.A4 q.n4 q.c4 q.A5 q.n5 q.c5 (w1.alloc (.cells q.cs 28)) w1.heap.size := NdB.new _
  have g0 : (w1.alloc (.cells q.cs 28)).cell? ⟨w1.heap.size, 0, none⟩ = some (.int .i64 q.k) := g2.cs.1
  have hkq : (q.k != 0) = true := by rw [q2.k]; simp [hk]
  obtain ⟨i, hid⟩ : ∃ i, idx l p = i := ⟨_, rfl⟩
  rw [hid] at C1 hi hi' q0 qa qb qc qd qe hxs hun HU
  obtain ⟨k, A1, n1, c1, A2, n2, c2, A3, n3, c3, A4, n4, c4, A5, n5, c5⟩ := q
  dsimp only [NdQ.cs] at *
  have HB := Lib.hid hB; have HB2 := Lib.hid hb2; have HUN := Lib.hid hun; have HXS := Lib.hid hxs; have HS1 := Lib.hid hs1; have HW1 := Lib.hid (fun _ : Unit => hw1)
  have t5 := g2.cs.2.2.2.2.2
  clear hN hR hl hp hs hk hB q1 q2 hlt0 hlt hun hb1 hb2 g1 g2 hxs hid hs1
  go_enter Tryz.func56, Tryz.ntmps56
  go_wp2_with (first | (go_at_call 62; refine (Sp.index_c C1.out _).mono ?_; rintro e' w' ⟨rfl, rfl⟩) | (go_at_call 80; refine (known_any _ _ _ _ _).mono ?_; rintro e' w2 ⟨rfl, hw2⟩; have HW2 := Lib.hid (fun _ : Unit => hw2); clear hw2) | go_in)
  go_ret
  exact known_resolved (HW2.out ()) (w1.heap.size + 1) (by simp) HB2.out (((HU.out.below HB.out).below HB2.out)) (fun h0 ad' e => (HU.out.2.2.2.2.1 ad' e).2 h0) HB.out.size HUN.out _ HXS.out
end Go.Proofs.YtakglldffpnlaaaGreatDoor.Rt

namespace Go.Proofs.YtakglldffpnlaaaGreatDoor.Rt
set_option linter.all false
open Go.RowKit Iter
open Wr (Txt Any New)
attribute [local go_sem] Oper.semAt_some

structure ResI (g h l : Nat) (hv : Array Value) (J : Nat → (Nat → Prop) → World → Prop) (X : Nat → Prop) (W : World) (k : Nat) (Y : Nat → Prop) (ds : List Nat) (W' : World) : Prop where
  yb : W'.rowIs g 88 1 (fun _ => .func (.yield l) #[] #[])
  hb : W'.heap[h]? = some (.cells hv 48 (0, 0))
  js : J k Y W'
  kx : Kept X W W'
  yx : ∀ b, Y b → (X b ∨ W.heap.size ≤ b) ∧ b ≠ g ∧ b ≠ h ∧ b < W'.heap.size
  mks : MarksAt (g + 1) ds W'
  md : ∀ D ∈ ds, ¬ Y D
theorem ResI.kept {g h l N : Nat} {hv : Array Value} {J : Nat → (Nat → Prop) → World → Prop} {X : Nat → Prop} {W : World} {k : Nat} {Y : Nat → Prop} {ds : List Nat} {A B : World} (x : ResI g h l hv J X W k Y ds A) (hk : Kept (fun b => N ≤ b ∧ ¬ Y b) A B)
    (hJ : ∀ k Y A B, J k Y A → Kept (fun b => W.heap.size ≤ b ∧ ¬ Y b) A B → J k Y B) (hg : g < N) (hh : h < N) (hN : W.heap.size ≤ N) (hds : ∀ D ∈ ds, D < N) : ResI g h l hv J X W k Y ds B :=
  ⟨x.yb.of_block (hk.block g x.yb.lt (by omega)), (hk.block h (Array.getElem?_eq_some_iff.1 x.hb).1 (by omega)).trans x.hb, hJ _ _ _ _ x.js (hk.mono fun b e => ⟨by omega, e.2⟩),
   ⟨hk.os.trans x.kx.os, hk.tape.trans x.kx.tape, hk.output.trans x.kx.output, Nat.le_trans x.kx.size hk.size, fun i hi hx => (hk.block i (Nat.lt_of_lt_of_le hi x.kx.size) (by omega)).trans (x.kx.block i hi hx)⟩,
   fun b hb => by have h9 := x.yx b hb; have := hk.size; exact ⟨h9.1, h9.2.1, h9.2.2.1, by omega⟩, x.mks.kept hk fun D hD e => by have := hds D hD; omega, x.md⟩
/-- a round's yield -/
theorem ResI.step {g h l : Nat} {hv : Array Value} {J : Nat → (Nat → Prop) → World → Prop} {X : Nat → Prop} {W : World} {k k' : Nat} {Y Y' : Nat → Prop} {ds : List Nat} {A B : World} (x : ResI g h l hv J X W k Y ds A)
    (hy : ∀ b, Y' b → (Y b ∨ A.heap.size ≤ b) ∧ b < B.heap.size) (hk : Kept Y A B) (hj : J k' Y' B) : ResI g h l hv J X W k' Y' ds B := by
  have hg := x.yb.lt
  have hh := (Array.getElem?_eq_some_iff.1 x.hb).1
  have hs := x.kx.size
  refine ⟨x.yb.of_block (hk.block g hg fun e => (x.yx g e).2.1 rfl), (hk.block h hh fun e => (x.yx h e).2.2.1 rfl).trans x.hb, hj,
    ⟨hk.os.trans x.kx.os, hk.tape.trans x.kx.tape, hk.output.trans x.kx.output, Nat.le_trans x.kx.size hk.size, fun i hi hx => (hk.block i (Nat.lt_of_lt_of_le hi x.kx.size) (fun e => by rcases (x.yx i e).1 with h | h; { exact hx h }; { omega })).trans (x.kx.block i hi hx)⟩,
    fun b hb => ?_, x.mks.kept hk fun D hD e => x.md D hD e, fun D hD e => ?_⟩
  · rcases (hy b hb).1 with h | h
    · have := x.yx b h; exact ⟨this.1, this.2.1, this.2.2.1, (hy b hb).2⟩
    · exact ⟨.inr (by omega), by omega, by omega, (hy b hb).2⟩
  · rcases (hy D e).1 with h | h
    · exact x.md D hD h
    · have := x.mks.lt D hD; omega

def ResP (d : Nat) (A : Option Addr) (n c : Nat) (ns : List Nd) (w0 : World) (l : Nat) : Prop :=
  ∀ p re im, l ≤ d → p < 2 ^ (d - l) → Sp.Is re im (some (l, p)) → ∀ w, Below w0.heap.size w0 w → Calls Tryz.prog 56 #[.agg #[.int .i64 d, .slice A n c], .complex .f64 re im] w (Resolved w0.heap.size (resF ns l p) w)

set_option maxHeartbeats 4000000 in
set_option maxRecDepth 100000 in
theorem res_hands0 (p re im gs gt : Nat) (X : Nat → Prop) (w : World) (hs : Sp.Is re im (some (0, p))) (hc : w.cell? ⟨gs, 0, none⟩ = some (.complex .f64 re im)) :
    HandsD Tryz.prog 81 #[.pointer (some ⟨gs, 0, none⟩), .pointer (some ⟨gt, 0, none⟩)] 0 (fun k => #[.int .i64 (gi [] k)]) X w := by
  intro l J Jx W Y0 hW hsz hJ hJx hY h0 h0X
  have cx := (hW.cell (p := ⟨gs, 0, none⟩) (block_lt_of_cell hc)).trans hc
  have hgs : gs < W.heap.size := block_lt_of_cell cx
  have hb0 := below_one W (.cells #[.func (.yield l) #[] #[]] 88)
  have cx' : (W.alloc (.cells #[.func (.yield l) #[] #[]] 88)).cell? ⟨gs, 0, none⟩ = some (.complex .f64 re im) := by
    rw [World.cell?_of_block (w := W) (Below.heap_alloc _ _ _ hgs)]; exact cx
  have H0 := Lib.hid (hJ 0 Y0 _ _ h0 (Kept.of_below hb0))
  have HS := Lib.hid hs; have HJ := Lib.hid hJ
  clear hJ hJx hY h0 hc hW hs cx h0X hsz hb0
  refine callsIn_of_wp_marks Tryz.func81 rfl trivial ?_ rfl
  simp only [Tryz.ntmps81, List.size_toArray, List.length_cons, List.length_nil, Nat.reduceAdd, Nat.reduceSub, Array.replicate_succ, Array.replicate_zero, List.push_toArray, List.append_toArray, List.nil_append, List.cons_append]
  gi_wp2_with fail
  refine ⟨trivial, rfl, ?_⟩
  refine (callsIn_wide.2 (below_leaf re im p _ HS.out)).mono ?_
  rintro e' w1 ⟨rfl, rfl⟩
  gi_wp2_with fail
  generalize W.alloc (.cells #[.func (.yield l) #[] #[]] 88) = w1 at *
  refine wpIn_loop (fun a' W' => a' = { tmps := #[.func (.yield l) #[] #[], .pointer (some ⟨gs, 0, none⟩), .pointer (some ⟨gt, 0, none⟩), .pointer (some ⟨W.heap.size, 0, none⟩), undef, undef, undef, .complex .f64 re im, .slice none 0 0, .int .i64 0, .int .i64 0, undef, undef, undef, undef, undef, undef, undef, undef, undef, undef, undef, undef], defers := [] } ∧ w1 = W') (fun _ _ => 0) ⟨rfl, rfl⟩ ?_
  rintro a' wr ⟨rfl, rfl⟩
  clear cx'
  gi_wp2_with fail
  exact leaves_marks2 (lo := 0) [] _ trivial fun W9 hk9 => ⟨_, results_none rfl _ _ _, ⟨_, rfl⟩, Y0, .inl (HJ.out _ _ _ _ H0.out (hk9.mono fun k e => by cases e))⟩

set_option maxHeartbeats 8000000 in
set_option maxRecDepth 100000 in
theorem res_hands1 (d : Nat) (A : Option Addr) (n c : Nat) (ns : List Nd) (w0 : World) (l0 p re im gs gt : Nat) (X : Nat → Prop) (w : World) (hl : l0 + 1 ≤ d) (hd : d ≤ 16) (hp : p < 2 ^ (d - (l0 + 1))) (hs : Sp.Is re im (some (l0 + 1, p)))
    (ih : ResP d A n c ns w0 l0) (hB : Below w0.heap.size w0 w) (hc : w.cell? ⟨gs, 0, none⟩ = some (.complex .f64 re im)) (ht : TrB d A n c w gt) (hX : ∀ b, X b → w0.heap.size ≤ b ∧ b ≠ gs ∧ b ≠ gt) :
    HandsD Tryz.prog 81 #[.pointer (some ⟨gs, 0, none⟩), .pointer (some ⟨gt, 0, none⟩)] (resF ns l0 (2 * p) ++ resF ns l0 (2 * p + 1)).length (fun k => #[.int .i64 (gi (resF ns l0 (2 * p) ++ resF ns l0 (2 * p + 1)) k)]) X w := by
  intro l J Jx W Y0 hW hsz hJ hJx hY h0 h0X
  obtain ⟨xs, hxs⟩ : ∃ xs : Nat → List Int, xs = fun j => resF ns l0 (2 * p + j) := ⟨_, rfl⟩
  have hx0 : resF ns l0 (2 * p) = xs 0 := by rw [hxs]; rfl
  have hx1 : resF ns l0 (2 * p + 1) = xs 1 := by rw [hxs]
  rw [hx0, hx1] at hY ⊢
  have cx := (hW.cell (p := ⟨gs, 0, none⟩) (block_lt_of_cell hc)).trans hc
  have hgs : gs < W.heap.size := block_lt_of_cell cx
  have htW := ht.below hW ht.lt
  have hgt : gt < W.heap.size := htW.lt
  have hb0 := below_one W (.cells #[.func (.yield l) #[] #[]] 88)
  have hs0 : (W.alloc (.cells #[.func (.yield l) #[] #[]] 88)).heap.size = W.heap.size + 1 := by simp
  have hg0 := heap_alloc_last W (.cells #[.func (.yield l) #[] #[]] 88)
  have cx' : (W.alloc (.cells #[.func (.yield l) #[] #[]] 88)).cell? ⟨gs, 0, none⟩ = some (.complex .f64 re im) := by
    rw [World.cell?_of_block (w := W) (Below.heap_alloc _ _ _ hgs)]; exact cx
  have HBW := Lib.hid (hB.trans (hW.mono hB.size))
  have HJ := Lib.hid hJ; have HJX := Lib.hid hJx
  have HY : Hid (Yields l (xs 0 ++ xs 1).length (fun k => #[.int .i64 (gi (xs 0 ++ xs 1) k)]) J Jx) := Lib.hid hY
  have H0 := Lib.hid h0; have H0X := Lib.hid h0X; have HX := Lib.hid hX; have HTW := Lib.hid htW; have HS := Lib.hid hs; have HXS := Lib.hid (fun _ : Unit => hxs); have HIH := Lib.hid ih
  obtain ⟨p1, p2⟩ := half_lt hl hp
  have HP : Hid (∀ j : Nat, j < 2 → 2 * p + j < 2 ^ (d - l0) ∧ Sp.Is (Fl.fl l0) (Fl.fl (2 * p + j)) (some (l0, 2 * p + j))) := Lib.hid fun j hj => ⟨by omega, is_half hl hp hd j hj⟩
  have HL : Hid (l0 ≤ d) := Lib.hid (by omega)
  clear hJ hJx hY h0 hc hW hs cx h0X hsz hxs hx0 hx1 ih hB ht hX htW hl hp p1 p2 hd
  refine callsIn_of_wp_marks Tryz.func81 rfl trivial ?_ rfl
  simp only [Tryz.ntmps81, List.size_toArray, List.length_cons, List.length_nil, Nat.reduceAdd, Nat.reduceSub, Array.replicate_succ, Array.replicate_zero, List.push_toArray, List.append_toArray, List.nil_append, List.cons_append]
  gi_wp2_with fail
  refine ⟨trivial, rfl, ?_⟩
  refine (callsIn_wide.2 (below_node re im l0 p _ HS.out)).mono ?_
  rintro e' w2 ⟨rfl, hw2⟩
  obtain ⟨w1, hw1⟩ : ∃ w1, W.alloc (.cells #[.func (.yield l) #[] #[]] 88) = w1 := ⟨_, rfl⟩
  rw [hw1] at hw2 hs0 hb0 hg0
  obtain ⟨hv, hhv⟩ : ∃ hv : Array Value, #[.complex .f64 (Fl.fl l0) (Fl.fl (2 * p)), .complex .f64 (Fl.fl l0) (Fl.fl (2 * p + 1))] = hv := ⟨_, rfl⟩
  rw [hhv] at hw2
  have hb2 : Below w1.heap.size w1 w2 := by rw [hw2]; exact below_one _ _
  have hs2 : w2.heap.size = W.heap.size + 2 := by rw [hw2, World.size_alloc, hs0]
  have hq2 : w2.heap[W.heap.size + 1]? = some (.cells hv 48 (0, 0)) := by have := heap_alloc_last w1 (.cells hv 48); rw [hs0] at this; rw [hw2]; exact this
  have hbW2 : Below W.heap.size W w2 := hb0.trans (hb2.mono (by omega))
  have HRI : Hid (ResI W.heap.size (W.heap.size + 1) l hv J X W 0 Y0 [] w2) := Lib.hid ⟨⟨_, (hb2.block _ (by omega)).trans hg0, rfl, fun i hi => by obtain rfl : i = 0 := (by omega); rfl⟩, hq2, HJ.out _ _ _ _ H0.out (Kept.of_below hbW2), Kept.of_below hbW2,
    fun b hb => by have h9 := H0X.out b hb; exact ⟨.inl h9.1, by omega, by omega, by omega⟩, trivial, fun D hD => by cases hD⟩
  have HHV : Hid (∀ j : Nat, j < 2 → hv[j]? = some (.complex .f64 (Fl.fl l0) (Fl.fl (2 * p + j)))) := Lib.hid fun j hj => by
    rw [← hhv]
    have e : j = 0 ∨ j = 1 := by omega
    rcases e with rfl | rfl <;> rfl
  rw [hw1]
  rw [show w1.heap.size = W.heap.size + 1 from hs0]
  clear hw2 hb2 hq2 hbW2 hs0 hb0 hg0 hhv cx' hw1
  gi_wp2_with fail
  refine wpIn_loop (fun a' W' => ∃ (j : Nat) (Y : Nat → Prop) (ds : List Nat) (v5 v11 v12 v13 v14 v15 v16 v22 : Value), j ≤ 2 ∧ a' = { tmps := #[.func (.yield l) #[] #[], .pointer (some ⟨gs, 0, none⟩), .pointer (some ⟨gt, 0, none⟩), .pointer (some ⟨W.heap.size, 0, none⟩), undef, v5, undef, .complex .f64 re im, .slice (some ⟨W.heap.size + 1, 0, none⟩) 2 2, .int .i64 2, .int .i64 j, v11, v12, v13, v14, v15, v16, undef, undef, undef, undef, undef, v22], defers := marks ds } ∧
      Hid (ResI W.heap.size (W.heap.size + 1) l hv J X W (if j = 0 then 0 else if j = 1 then (xs 0).length else (xs 0 ++ xs 1).length) Y ds W')) (fun a' _ => 2 - (intOf (a'.tmps.getD 10 undef)).toNat) ⟨0, Y0, [], undef, undef, undef, undef, undef, undef, undef, undef, by omega, rfl, HRI⟩ ?_
  rintro a' wr ⟨j, Y, ds, v5, v11, v12, v13, v14, v15, v16, v22, hj, rfl, HC⟩
  clear HRI
  by_cases hlt : j < 2
  · have yj : (j : Int) < 2 := by omega
    have hgl := HC.out.yb.lt
    have hsz3 := HC.out.kx.size
    have hcj : wr.cell? ⟨W.heap.size + 1, j, none⟩ = some (.complex .f64 (Fl.fl l0) (Fl.fl (2 * p + j))) := by rw [cell_of_row _ _ j _ _ _ HC.out.hb]; exact HHV.out j hlt
    have htr : TrB d A n c wr gt := (HC.out.kx.block gt hgt fun e => (HX.out _ e).2.2 rfl).trans HTW.out
    obtain ⟨t0, t1⟩ := htr.cs
    have hBr : Below w0.heap.size w0 wr := Kept.below HBW.out HC.out.kx (fun i e => (HX.out i e).1) HBW.out.size
    have HBR := Lib.hid hBr
    have HIHj := Lib.hid (HIH.out (2 * p + j) (Fl.fl l0) (Fl.fl (2 * p + j)) HL.out (HP.out j hlt).1 (HP.out j hlt).2 wr hBr)
    obtain ⟨x, hx⟩ : ∃ x, Fl.fl l0 = x := ⟨_, rfl⟩
    obtain ⟨y, hy⟩ : ∃ y, Fl.fl (2 * p + j) = y := ⟨_, rfl⟩
    rw [show resF ns l0 (2 * p + j) = xs j by rw [HXS.out ()], hx, hy] at HIHj
    rw [hx, hy] at hcj
    clear hx hy htr hBr
    gi_wp2_with fail
    refine ⟨trivial, rfl, ?_⟩
    refine (callsIn_wide.2 HIHj.out).mono ?_
    rintro e' w4 ⟨gf, lb, rfl, eg, hb4, hT⟩
    clear HIHj hcj t0 t1
    obtain ⟨off, hoff⟩ : ∃ off : Nat, (if j = 0 then 0 else if j = 1 then (xs 0).length else (xs 0 ++ xs 1).length) = off := ⟨_, rfl⟩
    rw [hoff] at HC
    have hnext : (if j + 1 = 0 then 0 else if j + 1 = 1 then (xs 0).length else (xs 0 ++ xs 1).length) = off + (xs j).length := by
      have e : j = 0 ∨ j = 1 := by omega
      rcases e with rfl | rfl
      · simp at hoff ⊢; omega
      · simp at hoff ⊢; omega
    have hval : ∀ k, k < (xs j).length → off + k < (xs 0 ++ xs 1).length ∧ gi (xs 0 ++ xs 1) (off + k) = gi (xs j) k := by
      intro k hk
      have e : j = 0 ∨ j = 1 := by omega
      rcases e with rfl | rfl
      · simp at hoff
        subst hoff
        refine ⟨by rw [List.length_append]; omega, ?_⟩
        unfold gi
        rw [List.getD_eq_getElem?_getD, List.getD_eq_getElem?_getD, Nat.zero_add, List.getElem?_append_left hk]
      · simp at hoff
        subst hoff
        refine ⟨by rw [List.length_append]; omega, ?_⟩
        unfold gi
        rw [List.getD_eq_getElem?_getD, List.getD_eq_getElem?_getD, List.getElem?_append_right (by omega)]
        congr 2; omega
    have HOFF := Lib.hid (fun _ : Unit => hnext); have HVAL := Lib.hid hval
    have hoffle : off + (xs j).length ≤ (xs 0 ++ xs 1).length := by rw [← hnext]; have e : j = 0 ∨ j = 1 := (by omega); rcases e with rfl | rfl <;> simp
    have hds : ∀ D ∈ ds, D < wr.heap.size := fun D hD => (HC.out.mks.lt D hD).2
    have hYlt : ∀ b, Y b → b < wr.heap.size := fun b hb => (HC.out.yx b hb).2.2.2
    have hhl := (Array.getElem?_eq_some_iff.1 HC.out.hb).1
    have hC4 : ResI W.heap.size (W.heap.size + 1) l hv J X W off Y ds w4 := HC.out.kept (N := wr.heap.size) (Kept.of_below hb4) HJ.out hgl hhl (by omega) hds
    have HC4 := Lib.hid hC4; have HDS := Lib.hid hds; have HB4 := Lib.hid hb4; have HT := Lib.hid hT; have HYL := Lib.hid hYlt
    have hz4 := hb4.size
    clear hoff hnext hval hds hYlt hC4 hb4 hT HC
    gi_wp2_with fail
    refine wp_range_d (P := Tryz.prog) (gf := gf) (lb := lb) (a₁ := fun k => { tmps := #[.func (.yield l) #[] #[], .pointer (some ⟨gs, 0, none⟩), .pointer (some ⟨gt, 0, none⟩), .pointer (some ⟨W.heap.size, 0, none⟩), undef, .complex .f64 x y, .int .i64 (gi (xs j) k), .complex .f64 re im, .slice (some ⟨W.heap.size + 1, 0, none⟩) 2 2, .int .i64 2, .int .i64 j, .bool true, .pointer (some ⟨W.heap.size + 1, j, none⟩), .complex .f64 x y, .agg #[.int .i64 d, .slice A n c], .complex .f64 x y, .func (.func gf) #[] lb, .int .i64 (gi (xs j) k), undef, undef, undef, undef, v22], defers := [] }) rfl eg
      Y (fun k e => by have := HYL.out k e; omega)
      (HT.out w4 _ (Below.refl _ _) (fun b hb => by
        rcases hb with h | h | h
        · have h9 := HC4.out.yx b h
          have := HYL.out b h
          refine ⟨?_, .inl this⟩
          rcases h9.1 with h | h
          · exact (HX.out b h).1
          · have := HBW.out.size; omega
        · have := HBR.out.size; exact ⟨by omega, .inr (by omega)⟩
        · have := HBR.out.size; exact ⟨by omega, .inr (by omega)⟩))
      (fun k => rfl) (fun k Y W' => ResI W.heap.size (W.heap.size + 1) l hv J X W (off + k) Y ds W') (fun x k Y W' => x = .ret ∧ Jx (off + k) Y W' ∧ MarksAt (W.heap.size + 1) ds W' ∧ ∀ D ∈ ds, ¬ Y D)
      (fun k Y A B h hk => h.kept hk HJ.out (by omega) (by omega) (by omega) (fun D hD => by have := HDS.out D hD; omega))
      (fun x k Y A B h hk => ⟨h.1, HJX.out _ _ _ _ h.2.1 (hk.mono fun i e => ⟨by have := e.1; omega, e.2⟩), h.2.2.1.kept hk fun D hD e => by have := HDS.out D hD; have := e.1; omega, h.2.2.2⟩) HC4.out ?assign ?body ?done ?stop
    case assign =>
      intro l x W K hK
      gi_wp2
      exact hK
    case body =>
      intro l' k Y' W' hk hszW hYN hI
      obtain ⟨hv1, hv2⟩ := HVAL.out k hk
      have HI := Lib.hid hI
      have c0 := hI.yb.cell (i := 0) (by omega)
      have hYk := HY.out (off + k) Y' W' hv1 hI.js
      dsimp only at hYk
      rw [hv2] at hYk
      obtain ⟨fn, tmps, assign, body, hy, hRr⟩ := hYk
      obtain ⟨z, hz⟩ : ∃ z, gi (xs j) k = z := ⟨_, rfl⟩
      rw [hz] at hy
      simp only [hz]
      have HR9 := Lib.hid hRr
      clear hRr hI hk hv1 hv2 hYN hz
      gi_wp2_with fail
      refine ⟨rfl, HR9.out.mono ?_⟩
      rintro e' W6 ⟨Y2, hy2, hK6, (⟨rfl, hJ6⟩ | ⟨rfl, hJ6⟩)⟩
      · gi_wp2
        exact ⟨Y2, hy2, hK6, HI.out.step hy2 hK6 hJ6⟩
      · gi_wp2
        have hI' : ResI W.heap.size (W.heap.size + 1) l hv (fun _ _ _ => True) X W (off + k) Y' ds W' := ⟨HI.out.yb, HI.out.hb, trivial, HI.out.kx, HI.out.yx, HI.out.mks, HI.out.md⟩
        have hI2 := hI'.step (k' := 0) hy2 hK6 trivial
        exact ⟨Y2, hy2, hK6, rfl, hJ6, hI2.mks, hI2.md⟩
    case done =>
      intro Y' W' hI hD hYN
      have hC9 : ResI W.heap.size (W.heap.size + 1) l hv J X W (if j + 1 = 0 then 0 else if j + 1 = 1 then (xs 0).length else (xs 0 ++ xs 1).length) Y' (w4.heap.size :: ds) W' := by
        rw [HOFF.out ()]
        exact ⟨hI.yb, hI.hb, hI.js, hI.kx, hI.yx, ⟨by omega, fun E hE => by have := HDS.out E hE; omega, hD, hI.mks⟩, fun D hD' e => by
          rcases List.mem_cons.1 hD' with rfl | h
          · exact hYN _ e rfl
          · exact hI.md D h e⟩
      have HC9 := Lib.hid hC9
      clear hC9 hI hD hYN
      rename_i K hK
      refine hK _ _ ?_
      clear hK K
      gi_wp2
      refine ⟨⟨j + 1, Y', w4.heap.size :: ds, _, _, _, _, _, _, _, _, by omega, rfl, HC9⟩, ?_⟩
      show 2 - (intOf (.int .i64 ((j : Int) + 1))).toNat < 2 - (intOf (.int .i64 (j : Int))).toNat
      simp [intOf]; omega
    case stop =>
      intro x k Y' W' hk h hD hYN
      obtain ⟨rfl, hX, hM, hMD⟩ := h
      have hmem : ∀ D, D ∈ w4.heap.size :: ds → ¬ Y' D := fun D hD' e => by
        rcases List.mem_cons.1 hD' with rfl | h
        · exact hYN _ e rfl
        · exact hMD D h e
      have hlo : ∀ D, D ∈ w4.heap.size :: ds → W.heap.size ≤ D := fun D hD' => by
        rcases List.mem_cons.1 hD' with rfl | h
        · omega
        · have := (hM.lt D h).1; omega
      gi_wp2_with fail
      exact leaves_marks2 (lo := W.heap.size + 1) (w4.heap.size :: ds) W' ⟨by omega, fun E hE => by have := HDS.out E hE; omega, hD, hM⟩ fun W9 hk9 => ⟨_, results_none rfl _ _ _, ⟨_, rfl⟩, Y', .inr ⟨off + k, by omega, HJX.out _ _ _ _ hX (hk9.mono fun i e => ⟨hlo i e, hmem i e⟩)⟩⟩
  · obtain rfl : j = 2 := by omega
    gi_wp2_with fail
    exact leaves_marks2 (lo := W.heap.size + 1) ds wr HC.out.mks fun W9 hk9 => ⟨_, results_none rfl _ _ _, ⟨_, rfl⟩, Y, .inl (HJ.out _ _ _ _ HC.out.js (hk9.mono fun i e => ⟨by have := (HC.out.mks.lt i e).1; omega, HC.out.md i e⟩))⟩
end Go.Proofs.YtakglldffpnlaaaGreatDoor.Rt

namespace Go.Proofs.YtakglldffpnlaaaGreatDoor.Rt
set_option linter.all false
open Go.RowKit Iter
open Wr (Txt Any New)
attribute [local go_sem] Oper.semAt_some

set_option maxHeartbeats 4000000 in
set_option maxRecDepth 100000 in
theorem resolution_blank (d : Nat) (A : Option Addr) (n c : Nat) (ns : List Nd) (w0 : World) (hN : Nodes Any Any w0 A n c ns) (hR : Right ns d) (l p re im : Nat) (hl : l ≤ d) (hp : p < 2 ^ (d - l)) (hs : Sp.Is re im (some (l, p))) (hk : (nd ns (idx l p)).kind = 0)
    (w : World) (hB : Below w0.heap.size w0 w) (xs : List Int)
    (hands : ∀ gs gt X w'', Below w0.heap.size w0 w'' → w''.cell? ⟨gs, 0, none⟩ = some (.complex .f64 re im) → TrB d A n c w'' gt → (∀ b, X b → w0.heap.size ≤ b ∧ b ≠ gs ∧ b ≠ gt) → Tells 81 #[.pointer (some ⟨gs, 0, none⟩), .pointer (some ⟨gt, 0, none⟩)] xs X w'') :
    Calls Tryz.prog 56 #[.agg #[.int .i64 d, .slice A n c], .complex .f64 re im] w (Resolved w0.heap.size xs w) := by
  have hi := idx_lt hl hp
  rw [← hR.len, hN.len] at hi
  have C1 := Lib.hid (idx_c hs)
  obtain ⟨ad, rfl⟩ := hN.some (by omega)
  obtain ⟨q, q1, q2⟩ := hN.at (idx l p) hi
  have hlt0 : ad.block < w0.heap.size := (hN.2.2.2.2.1 ad rfl).2 (by omega)
  have hlt : ad.block < w.heap.size := by have := hB.size; omega
  have hi' : ((idx l p : Nat) : Int) < (n : Int) := by omega
  have hb1 : Below w.heap.size w ((w.alloc (.cells #[.int .i64 d, .slice (some ad) n c] 24)).alloc (.cells #[.complex .f64 re im] 48)) := ((Below.refl _ _).alloc (Nat.le_refl _) _).alloc (by simp) _
  obtain ⟨w1, hw1⟩ : ∃ w1, ((w.alloc (.cells #[.int .i64 d, .slice (some ad) n c] 24)).alloc (.cells #[.complex .f64 re im] 48)) = w1 := ⟨_, rfl⟩
  rw [hw1] at hb1
  have hs1 : w1.heap.size = w.heap.size + 2 := by rw [← hw1]; simp
  have r0 : w1.cell? ⟨w.heap.size + 1, 0, none⟩ = some (.complex .f64 re im) := by
    have := heap_alloc_last (w.alloc (.cells #[.int .i64 d, .slice (some ad) n c] 24)) (.cells #[.complex .f64 re im] 48)
    rw [World.size_alloc, hw1] at this
    exact cell_of_row _ _ 0 _ _ _ this
  have g1 : TrB d (some ad) n c w1 w.heap.size := by
    rw [← hw1]; exact (Below.heap_alloc _ _ _ (by simp)).trans (heap_alloc_last w _)
  have r1 := g1.cs.2
  obtain ⟨q0, qa, qb, qc, qd, qe⟩ := ((q1.of_block (w' := w) (hB.block _ (by rw [Wr.add_block]; exact hlt0))).of_block (w' := w1) (hb1.block _ (by rw [Wr.add_block]; exact hlt))).cells
  have hb2 : Below w.heap.size w (w1.alloc (.cells q.cs 28)) := hb1.alloc hb1.size _
  have g2 : NdB q.k q.A1 q.n1 q.c1 q.A2 q.n2 q.c2 q.A3 q.n3 q.c3 q.A4 q.n4 q.c4 q.A5 q.n5 q.c5 (w1.alloc (.cells q.cs 28)) w1.heap.size := NdB.new _
  have g0 : (w1.alloc (.cells q.cs 28)).cell? ⟨w1.heap.size, 0, none⟩ = some (.int .i64 q.k) := g2.cs.1
  have hkq : (q.k != 0) = false := by rw [q2.k]; simp [hk]
  obtain ⟨i, hid⟩ : ∃ i, idx l p = i := ⟨_, rfl⟩
  rw [hid] at C1 hi hi' q0 qa qb qc qd qe
  obtain ⟨k, A1, n1, c1, A2, n2, c2, A3, n3, c3, A4, n4, c4, A5, n5, c5⟩ := q
  dsimp only [NdQ.cs] at *
  have HB := Lib.hid hB; have HB2 := Lib.hid hb2; have HH := Lib.hid hands; have HG1 := Lib.hid g1; have HR0 := Lib.hid r0; have HS1 := Lib.hid hs1; have HW1 := Lib.hid (fun _ : Unit => hw1)
  clear hN hR hl hp hs hk hB q1 q2 hlt0 hlt hb1 hb2 g1 g2 hid hs1 hands
  go_enter Tryz.func56, Tryz.ntmps56
  go_wp2_with (first | (go_at_call 62; refine (Sp.index_c C1.out _).mono ?_; rintro e' w' ⟨rfl, rfl⟩) | (go_at_call 80; refine (known_any _ _ _ _ _).mono ?_; rintro e' w2 ⟨rfl, hw2⟩; have HW2 := Lib.hid (fun _ : Unit => hw2); clear hw2) | go_in)
  go_ret
  have hbn := below_one w1 (.cells (ndc k A1 n1 c1 A2 n2 c2 A3 n3 c3 A4 n4 c4 A5 n5 c5) 28)
  refine ⟨_, _, rfl, enters_of Tryz.func81 (by kernel_rfl) rfl, HB2.out, fun w'' X hb'' hX => ?_⟩
  have hs1 := HS1.out
  have hz := hbn.size
  refine HH.out _ _ X w'' (HB.out.trans ((HB2.out.trans (hb''.mono HB2.out.size)).mono HB.out.size)) ((hb''.cell (p := ⟨w.heap.size + 1, 0, none⟩) (by show w.heap.size + 1 < _; simp; omega)).trans ((hbn.cell (p := ⟨w.heap.size + 1, 0, none⟩) (by show w.heap.size + 1 < _; omega)).trans HR0.out))
    ((HG1.out.below hbn (by omega)).below hb'' (by simp; omega)) (fun b hb => ?_)
  have h9 := hX b hb
  rw [World.size_alloc] at h9
  omega
theorem gi_nil (k : Nat) : gi [] k = 0 := by simp [gi]
theorem resolution_all (d : Nat) (A : Option Addr) (n c : Nat) (ns : List Nd) (w0 : World) (hN : Nodes Any Any w0 A n c ns) (hR : Right ns d) : ∀ l, ResP d A n c ns w0 l := by
  intro l
  induction l with
  | zero =>
    intro p re im hl hp hs w hB
    by_cases hk : (nd ns (idx 0 p)).kind = 0
    · refine resolution_blank d A n c ns w0 hN hR 0 p re im hl hp hs hk w hB _ ?_
      intro gs gt X w'' hb hc ht hX
      have := res_hands0 p re im gs gt X w'' hs hc
      unfold Tells
      rw [resF, if_pos hk]
      exact this
    · refine resolution_known d A n c ns w0 hN hR 0 p re im hl hp hs hk w hB _ ?_
      rw [resF, if_neg hk]
  | succ l ih =>
    intro p re im hl hp hs w hB
    by_cases hk : (nd ns (idx (l + 1) p)).kind = 0
    · refine resolution_blank d A n c ns w0 hN hR (l + 1) p re im hl hp hs hk w hB _ ?_
      intro gs gt X w'' hb hc ht hX
      have := res_hands1 d A n c ns w0 l p re im gs gt X w'' hl (by have := hR.deep; omega) hp hs ih hb hc ht hX
      unfold Tells
      rw [resF, if_pos hk]
      exact this
    · refine resolution_known d A n c ns w0 hN hR (l + 1) p re im hl hp hs hk w hB _ ?_
      rw [resF, if_neg hk]
end Go.Proofs.YtakglldffpnlaaaGreatDoor.Rt

namespace Go.Proofs.YtakglldffpnlaaaGreatDoor.Rt
set_option linter.all false
open Go.RowKit Iter
open Wr (Txt Any New)
attribute [local go_sem] Oper.semAt_some

theorem own_of_blocks {w w' : World} {base e sz n : Nat} {v : Value} {xs : List Value} (h : w.ownsRow base e sz v n xs) (hb : ∀ b, v.ownBlock = some b → w'.heap[b]? = w.heap[b]?) : w'.ownsRow base e sz v n xs := by
  refine ⟨h.1, ?_⟩
  rcases h.2 with h1 | ⟨g, c, cur, he, hg, hc, rest⟩
  · exact .inl h1
  · subst he
    exact .inr ⟨g, c, cur, rfl, hg, (hb g rfl).trans hc, rest⟩
structure AppI (g : Nat) (xs : List Int) (w : World) (k : Nat) (Y : Nat → Prop) (W : World) : Prop where
  cell : ∃ C cc, W.rowIs g 26 1 (fun _ => .slice C k cc) ∧ W.ownsRow (g + 1) 3 1 (.slice C k cc) k (icells (xs.take k)) ∧ (∀ b, Y b ↔ b = g ∨ Value.ownBlock (.slice C k cc) = some b)
  below : Below w.heap.size w W
theorem AppI.kept {g N : Nat} {xs : List Int} {w : World} {k : Nat} {Y : Nat → Prop} {A B : World} (h : AppI g xs w k Y A) (hk : Kept (fun b => N ≤ b ∧ ¬ Y b) A B) (hN : w.heap.size ≤ N) : AppI g xs w k Y B := by
  obtain ⟨⟨C, cc, h1, h2, h3⟩, h4⟩ := h
  refine ⟨⟨C, cc, h1.of_block (hk.block g h1.lt fun e => e.2 ((h3 g).2 (.inl rfl))), own_of_blocks h2 fun b hb => hk.block b (h2.lt b hb).2 fun e => e.2 ((h3 b).2 (.inr hb)), h3⟩, hk.below h4 (fun i e => by omega) h4.size⟩
theorem rowIs_new1 (w : World) (v : Value) (t : TypeId) : (w.alloc (.cells #[v] t)).rowIs w.heap.size t 1 (fun _ => v) := ⟨_, heap_alloc_last w _, rfl, fun i hi => by obtain rfl : i = 0 := (by omega); rfl⟩

set_option maxHeartbeats 4000000 in
set_option maxRecDepth 100000 in
theorem appendSeq_any (gf : FuncId) (lb : Array Value) (xs : List Int) (w : World) (eg : ∀ args w, (callFunc gf args).run Tryz.prog w = .ok (.enter gf args) w) (hlen : xs.length ≤ 65536)
    (hT : ∀ w'' X, Below w.heap.size w w'' → (∀ b, X b → w.heap.size ≤ b) → Tells gf lb xs X w'') :
    Calls Tryz.prog 79 #[.slice none 0 0, .func (.func gf) #[] lb] w (ToldI xs w) := by
  have HT := Lib.hid hT; have EG := Lib.hid eg; have HLEN := Lib.hid hlen
  have hb1 := below_one w (.cells #[.slice none 0 0] 26)
  have hr1 := rowIs_new1 w (.slice none 0 0) 26
  have HB1 := Lib.hid hb1; have HR1 := Lib.hid hr1
  have hs1 : (w.alloc (.cells #[.slice none 0 0] 26)).heap.size = w.heap.size + 1 := by simp
  clear hT eg hlen hb1 hr1
  refine callsIn_wide.1 (callsIn_of_wp_marks (n := 0) Tryz.func79 rfl trivial ?_ rfl)
  simp only [Tryz.ntmps79, List.size_toArray, List.length_cons, List.length_nil, Nat.reduceAdd, Nat.reduceSub, Array.replicate_succ, Array.replicate_zero, List.push_toArray, List.append_toArray, List.nil_append, List.cons_append]
  gi_wp2_with fail
  obtain ⟨w1, hw1⟩ : ∃ w1, w.alloc (.cells #[.slice none 0 0] 26) = w1 := ⟨_, rfl⟩
  rw [hw1] at HB1 HR1 hs1
  rw [hw1]
  clear hw1
  refine wp_range_d (P := Tryz.prog) (gf := gf) (lb := lb) (a₁ := fun k => { tmps := #[.slice none 0 0, .func (.func gf) #[] lb, .pointer (some ⟨w.heap.size, 0, none⟩), undef, .slice none 0 0, .int .i64 (gi xs k), .func (.func gf) #[] lb, .int .i64 (gi xs k), undef, undef, undef, undef, undef], defers := [] }) rfl EG.out
    (fun b => b = w.heap.size) (fun b e => by omega) (HT.out w1 _ HB1.out (fun b hb => by have := HB1.out.size; rcases hb with h | h | h <;> omega))
    (fun k => rfl) (AppI w.heap.size xs w) (fun x k Y W => False)
    (fun k Y A B h hk => h.kept hk HB1.out.size) (fun x k Y A B h hk => h)
    ⟨⟨none, 0, HR1.out, nil_ints _ _, fun b => ⟨fun h => .inl h, fun h => by rcases h with h | h; { exact h }; { cases h }⟩⟩, HB1.out⟩ ?assign ?body ?done ?stop
  case assign =>
    intro l x W K hK
    gi_wp2
    exact hK
  case body =>
    intro l k Y W hk hszW hYN hI
    obtain ⟨⟨C, cc, h1, h2, h3⟩, h4⟩ := hI
    have H1 := Lib.hid h1; have H2 := Lib.hid h2; have H3 := Lib.hid h3; have H4 := Lib.hid h4
    have c0 := h1.cell (i := 0) (by omega)
    have f0 := h1.frozen 0
    have hlt := h1.lt
    have hl := HLEN.out
    have E1 := Lib.hid (gi_take xs k hk)
    obtain ⟨z, hz⟩ : ∃ z, gi xs k = z := ⟨_, rfl⟩
    rw [hz] at E1
    simp only [hz]
    clear h1 h2 h3 h4 hYN hz
    gi_wp2_with (refine wpListIn_of_wp (plain_round _ l) rfl (fun c e => by cases e) (fun K hK => wp_append_ints (.tmp 8) (.tmp 10) rfl (w.heap.size + 1) k 1 1 _ (xs.take k) [z] (some ⟨W.heap.size, 0, none⟩) Any rfl rfl (H2.out.alloc _) (one_int W z) (by omega) (by have := H4.out.size; simp; omega) ?_))
    intro v' w' ho' hg' hat
    obtain ⟨C', c', rfl⟩ := own_sliceG ho'
    refine hK _ _ ?_
    clear hK K
    have hbox : w'.rowIs w.heap.size 26 1 (fun _ => .slice C k cc) := (H1.out.alloc _).of_block (hg'.block _ (by simp; omega) (fun e => by have := (H2.out.lt _ e.symm).1; omega))
    have c1 := hbox.cell (i := 0) (by omega)
    have f1 := hbox.frozen 0
    have hka : Kept Y W w' := (Kept.alloc W _).trans (Kept.of_grown hg' (fun r e => (H3.out r).2 (.inr e)))
    have hbl' : Below w.heap.size w w' := hka.below H4.out (fun i e => by
      rcases (H3.out i).1 e with h | h
      · omega
      · have := (H2.out.lt i h).1; omega) H4.out.size
    have HO' := Lib.hid ho'; have HBX := Lib.hid hbox; have HKA := Lib.hid hka; have HBL := Lib.hid hbl'; have HAT := Lib.hid hat
    clear ho' hg' hbox hka hbl' c0 f0 hat
    gi_wp2
    have hlw : w.heap.size < w'.heap.size := by have := HBX.out.lt; exact this
    refine ⟨fun b => b = w.heap.size ∨ Value.ownBlock (.slice C' (k + 1) c') = some b, fun b hb => ?_, HKA.out.trans (Kept.set w' ⟨w.heap.size, 0, none⟩ _ ((H3.out _).2 (.inl rfl))), ⟨⟨C', c', ?_, ?_, fun b => Iff.rfl⟩, HBL.out.setCell (p := ⟨w.heap.size, 0, none⟩) (Nat.le_refl _) _⟩⟩
    · have hz : (w'.setCell ⟨w.heap.size, 0, none⟩ (.slice C' (k + 1) c')).heap.size = w'.heap.size := by simp [World.setCell]
      rw [hz]
      rcases hb with rfl | h
      · exact ⟨.inl ((H3.out _).2 (.inl rfl)), hlw⟩
      · refine ⟨?_, (HO'.out.lt b h).2⟩
        rcases HAT.out with h' | h'
        · exact .inl ((H3.out b).2 (.inr (by rw [← h']; exact h)))
        · rw [h] at h'
          injection h' with h'
          exact .inr (by omega)
    · refine (HBX.out.set 0 _).congr fun i hi => ?_
      obtain rfl : i = 0 := (by omega)
      rfl
    · rw [E1.out]
      exact own_of_blocks HO'.out fun b hb => Below.heap_setCell w' ⟨w.heap.size, 0, none⟩ _ b (by have := (HO'.out.lt b hb).1; show b ≠ w.heap.size; omega)
  case done =>
    intro Y W hI hD hYN
    obtain ⟨⟨C, cc, h1, h2, h3⟩, h4⟩ := hI
    rw [hs1] at hD hYN
    have H1 := Lib.hid h1; have H2 := Lib.hid h2; have H3 := Lib.hid h3; have H4 := Lib.hid h4; have HD := Lib.hid hD; have HYN := Lib.hid hYN
    have c0 := h1.cell (i := 0) (by omega)
    clear h1 h2 h3 h4 hD hYN
    rename_i K hK
    refine hK _ _ ?_
    clear hK K
    gi_wp2
    refine ⟨by simp, .inl ⟨_, _, rfl, run_takeDeferred HD.out, ?_⟩⟩
    refine ⟨_, results_tmp rfl _ _ _, ?_⟩
    have hne : ∀ b, Value.ownBlock (.slice C xs.length cc) = some b → (W.putObj (w.heap.size + 1) (.deferred none)).heap[b]? = W.heap[b]? := fun b hb => World.putObj_heap_other fun e => HYN.out b ((H3.out b).2 (.inr hb)) e
    have hpb := (Below.refl w.heap.size W).grown (grownBy_putObj' W (w.heap.size + 1) (.deferred none)) H4.out.size (fun k e => by cases e; omega)
    have ho := own_of_blocks H2.out hne
    rw [List.take_length] at ho
    exact ⟨C, xs.length, cc, rfl, (Ints.of_own ho).mono fun b hb => ⟨by have := hb.1; omega, hb.2⟩, H4.out.trans hpb⟩
  case stop =>
    intro x k Y W hk h hD hYN
    exact h.elim
theorem collect_any (gf : FuncId) (lb : Array Value) (xs : List Int) (w : World) (eg : ∀ args w, (callFunc gf args).run Tryz.prog w = .ok (.enter gf args) w) (hlen : xs.length ≤ 65536)
    (hT : ∀ w'' X, Below w.heap.size w w'' → (∀ b, X b → w.heap.size ≤ b) → Tells gf lb xs X w'') :
    Calls Tryz.prog 55 #[.func (.func gf) #[] lb] w (ToldI xs w) := by
  have H := Lib.hid (appendSeq_any gf lb xs w eg hlen hT)
  clear hT eg
  go_enter Tryz.func55, Tryz.ntmps55
  go_wp2_with (first | (go_at_call 79; refine H.out.mono ?_; rintro e' w' ⟨A, n, c, rfl, hI, hB⟩; have HI := Lib.hid hI; have HB := Lib.hid hB; clear hI hB) | go_in)
  go_ret
  exact ⟨A, n, c, rfl, HI.out, HB.out⟩
theorem knownF_len (i : Nat) (n : Nd) : (knownF i n).length = n.un.length + 1 := by simp [knownF]

/-- what Resolve tells -/
noncomputable def resT (D : Int) (ns : List Nd) (o : Option (Nat × Nat)) : List Int :=
  @ite _ (RightT D ns ∧ ∃ l p, o = some (l, p) ∧ l ≤ D.toNat ∧ p < 2 ^ (D.toNat - l)) (Classical.propDecidable _) (match o with | some (l, p) => resF ns l p | none => []) []
theorem resT_yes {ns : List Nd} {d l p : Nat} (h : Right ns d) (hl : l ≤ d) (hp : p < 2 ^ (d - l)) : resT d ns (some (l, p)) = resF ns l p := by unfold resT; rw [if_pos ⟨⟨d, rfl, h⟩, l, p, rfl, hl, hp⟩]
theorem resT_no {D : Int} {ns : List Nd} {o : Option (Nat × Nat)} (h : ¬ ∃ d : Nat, D = d ∧ Right ns d ∧ ∃ l p, o = some (l, p) ∧ l ≤ d ∧ p < 2 ^ (d - l)) : resT D ns o = [] := by
  unfold resT
  rw [if_neg]
  rintro ⟨⟨d, rfl, hr⟩, l, p, ho, hl, hp⟩
  exact h ⟨d, rfl, hr, l, p, ho, hl, hp⟩
theorem rise_len : ∀ (un : List Int) (a : Int) (m : Int), Rise a un → (∀ x ∈ un, x < m) → a < m → (un.length : Int) ≤ m - 1 - a
  | [], a, m, _, _, h => by simp; omega
  | x :: un, a, m, hr, hx, h => by
    have h1 := hx x (List.mem_cons_self ..)
    have := rise_len un x m hr.2 (fun y hy => hx y (List.mem_cons_of_mem _ hy)) h1
    have := hr.1
    rw [List.length_cons]
    omega
theorem Right.un_len {ns : List Nd} {d : Nat} (h : Right ns d) (l p : Nat) (hl : l ≤ d) (hp : p < 2 ^ (d - l)) : (nd ns (idx l p)).un.length ≤ 2 ^ d := by
  have hh := h.each l p hl hp
  revert hh
  generalize nd ns (idx l p) = nn
  intro hh
  cases hh with
  | bl e => rw [e]; simp [blank]
  | lf _ k => rw [k.un]; simp
  | nod _ _ k =>
    have := rise_len nn.un (-1) (2 ^ d) k.rise (fun x hx => (k.each x hx).2.2.1) (by have := Int.pow_pos (n := 2) (m := d) (by omega); omega)
    rw [pow_eq] at this
    omega
theorem res_len {ns : List Nd} {d : Nat} (h : Right ns d) : ∀ (l p : Nat), l ≤ d → p < 2 ^ (d - l) → (resF ns l p).length ≤ 2 ^ l * (2 ^ d + 1)
  | 0, p, hl, hp => by
    have := h.un_len 0 p hl hp
    rw [resF]
    split
    · simp
    · rw [knownF_len]; omega
  | l + 1, p, hl, hp => by
    obtain ⟨p1, p2⟩ := half_lt hl hp
    have a := res_len h l (2 * p) (by omega) p1
    have b := res_len h l (2 * p + 1) (by omega) p2
    have e : 2 ^ (l + 1) * (2 ^ d + 1) = 2 ^ l * (2 ^ d + 1) + 2 ^ l * (2 ^ d + 1) := by rw [Nat.pow_succ]; rw [Nat.mul_comm (2 ^ l) 2, Nat.mul_assoc]; omega
    rw [resF]
    split
    · rw [List.length_append]; omega
    · rw [knownF_len]
      have := h.un_len (l + 1) p hl hp
      have : 2 ^ d + 1 ≤ 2 ^ l * (2 ^ d + 1) := Nat.le_mul_of_pos_left _ (Nat.two_pow_pos l)
      omega

set_option maxHeartbeats 4000000 in
set_option maxRecDepth 100000 in
theorem resolve_any (D : Int) (A : Option Addr) (n c : Nat) (ns : List Nd) (re im : Nat) (o : Option (Nat × Nat)) (w : World) (hN : Nodes Any Any w A n c ns) (hT : Sp.Tab w) (ho : Sp.Is re im o) :
    Calls Tryz.prog 24 #[.agg #[.int .i64 D, .slice A n c], .complex .f64 re im] w (ToldI (resT D ns o) w) := by
  obtain ⟨W0, hW0, g1, hB0⟩ := one_new w D A n c
  have B0 := Lib.hid hB0
  have G1 := Lib.hid g1
  have hN0 := hN.below hB0
  have hT0 := hT.below hB0
  obtain ⟨q0, q1⟩ := g1.cs
  have hlt := g1.lt
  clear hB0 g1 hN hT
  by_cases hr : ∃ d : Nat, D = d ∧ Right ns d ∧ ∃ l p, o = some (l, p) ∧ l ≤ d ∧ p < 2 ^ (d - l)
  · have C1 := Lib.hid (hasSpot_is D A n c ns re im o true W0 hN0 hT0 ho (by simp [hr]))
    obtain ⟨d, rfl, hR, l, p, rfl, hl, hp⟩ := hr
    rw [resT_yes hR hl hp]
    have hlen : (resF ns l p).length ≤ 65536 := by
      have h1 := res_len hR l p hl hp
      have h6 := hR.deep
      have h2 : 2 ^ l ≤ 2 ^ 6 := Nat.pow_le_pow_right (by decide) (by omega)
      have h3 : 2 ^ d ≤ 2 ^ 6 := Nat.pow_le_pow_right (by decide) (by omega)
      have h4 : 2 ^ l * (2 ^ d + 1) ≤ 2 ^ 6 * (2 ^ 6 + 1) := Nat.mul_le_mul h2 (by omega)
      have : 2 ^ 6 * (2 ^ 6 + 1) = 4160 := by decide
      omega
    have HLEN := Lib.hid hlen; have HN := Lib.hid hN0; have HR := Lib.hid hR
    have HI : Hid (l ≤ d ∧ p < 2 ^ (d - l) ∧ Sp.Is re im (some (l, p))) := Lib.hid ⟨hl, hp, ho⟩
    clear hN0 hT0 hR hl hp ho hlen
    go_enter Tryz.func24, Tryz.ntmps24
    go_wp2_with (first
      | (go_at_call 54; refine C1.out.mono ?_; rintro e' w2 ⟨rfl, hb2⟩; have HW2 := Lib.hid (B0.out.trans (hb2.mono B0.out.size)); have HN2 := Lib.hid (HN.out.below hb2); obtain ⟨t0, t1⟩ := (G1.out.below hb2 hlt).cs; clear hb2 q0 q1)
      | (go_at_call 56; refine (resolution_all d A n c ns w2 HN2.out HR.out l p re im HI.out.1 HI.out.2.1 HI.out.2.2 w2 (Below.refl _ _)).mono ?_; rintro e' w3 ⟨gf, lb, rfl, eg, hb3, hT3⟩; have HW3 := Lib.hid (HW2.out.trans (hb3.mono HW2.out.size)); have HT3 := Lib.hid hT3; have HEG := Lib.hid eg; have HZ := Lib.hid hb3.size; clear hb3 hT3 eg)
      | (go_at_call 55; refine (collect_any gf lb (resF ns l p) w3 HEG.out HLEN.out (fun w'' X hb hX => HT3.out w'' X hb fun b hb' => by have h8 := hX b hb'; have h9 := HZ.out; exact ⟨by omega, .inr h8⟩)).mono ?_; rintro e' w4 ⟨A4, n4, c4, rfl, hI4, hB4⟩; have HI4 := Lib.hid (hI4.mono (fun b hb => (⟨Nat.le_trans HW3.out.size hb.1, hb.2⟩ : New w.heap.size w4 b))); have HW4 := Lib.hid (HW3.out.trans (hB4.mono HW3.out.size)); clear hI4 hB4)
      | go_in)
    go_ret
    exact ⟨_, _, _, rfl, HI4.out, HW4.out⟩
  · have C1 := Lib.hid (hasSpot_is D A n c ns re im o false W0 hN0 hT0 ho (by simp [hr]))
    rw [resT_no hr]
    clear hN0 hT0 hr ho
    go_enter Tryz.func24, Tryz.ntmps24
    go_wp2_with (first | (go_at_call 54; refine C1.out.mono ?_; rintro e' w2 ⟨rfl, hb2⟩; have HW2 := Lib.hid (B0.out.trans (hb2.mono B0.out.size)); clear hb2) | go_in)
    go_ret
    exact ⟨none, 0, 0, rfl, Ints.nil _ _, HW2.out⟩
end Go.Proofs.YtakglldffpnlaaaGreatDoor.Rt
