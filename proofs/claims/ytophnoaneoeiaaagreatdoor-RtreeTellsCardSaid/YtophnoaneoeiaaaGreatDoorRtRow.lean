/- What the rows' proofs share: the tables of all packages out of the laid list, a world for the witness, trees that came in. -/
import Derived.Test.YtophnoaneoeiaaaGreatDoorRtGreat
import Derived.Test.YtophnoaneoeiaaaGreatDoorShaRow
import Derived.Test.YtophnoaneoeiaaaGreatDoorSpRow
import Derived.Test.YtophnoaneoeiaaaGreatDoorWrRow
import Derived.Lib.SmallJoins
import Derived.Deep.Slices
import Derived.Deep.Fields
import Derived.ChangeSame
namespace Go.Proofs.YtophnoaneoeiaaaGreatDoor.Rt
set_option linter.all false
set_option maxRecDepth 100000
open Go.ChangeShapes Go.WideShapes Go.ChangeAt Go.RowKit
open Wr (Txt Any New)

def laidList : List (String × DataW Unit) := [("math/bits.deBruijn32tab", Rows.laid_math_bits_deBruijn32tab), ("math/bits.deBruijn64tab", Rows.laid_math_bits_deBruijn64tab), ("sodality/sha2.firstState", Rows.laid_sodality_sha2_firstState), ("sodality/sha2.roundConstants", Rows.laid_sodality_sha2_roundConstants), ("sodality/wire.classes", Rows.laid_sodality_wire_classes)]
theorem cells_lt {w : World} {g : Nat} {o : Obj} (h : w.heap[g]? = some o) : g < w.heap.size := (Array.getElem?_eq_some_iff.1 h).1
theorem tabs_of {W : World} (h : laidMetH Tryz.prog laidList W) : Tabs W := by
  have h0 : laidMet Tryz.prog laidList W := h
  have hb : laidMet Tryz.prog Sp.laidList W := h0.filter (fun x => x.1 == "math/bits.deBruijn32tab" || x.1 == "math/bits.deBruijn64tab")
  have hs : laidMet Tryz.prog Sha.laidList W := h0.filter (fun x => x.1 == "sodality/sha2.firstState" || x.1 == "sodality/sha2.roundConstants")
  have hw : laidMet Tryz.prog Wr.laidList W := h0.filter (fun x => x.1 == "sodality/wire.classes")
  have h1 : laidMet Tryz.prog [("sodality/sha2.firstState", Rows.laid_sodality_sha2_firstState)] W := h0.filter (fun x => x.1 == "sodality/sha2.firstState")
  have h2 : laidMet Tryz.prog [("sodality/sha2.roundConstants", Rows.laid_sodality_sha2_roundConstants)] W := h0.filter (fun x => x.1 == "sodality/sha2.roundConstants")
  have tl1 : Sha.TabAt W 0 .u32 Sha.firstT := Sha.tabAt_of_is Sha.gFirst (Lib.tabIs_of_head (rest := []) Sha.gFirst (t := 116) (by kernel_rfl) Tryz.underlying116 Tryz.underlying114 (by kernel_rfl) (by kernel_rfl) h1)
  have l1 := tl1.lt
  have tl2 : Sha.TabAt W 1 .u32 Sha.consT := Sha.tabAt_of_is Sha.gRounds (Lib.tabIs_of_head (rest := []) Sha.gRounds (t := 138) (by kernel_rfl) Tryz.underlying138 Tryz.underlying114 (by kernel_rfl) (by kernel_rfl) h2)
  have l2 := tl2.lt
  have hS := Sp.tab_of hb
  have l3 : 5 < W.heap.size := by obtain ⟨t, fr, hc⟩ := hS; exact cells_lt hc
  have hW := Wr.tables_of0 hw
  have l4 : 2 < W.heap.size := by obtain ⟨t, fr, hc⟩ := hW; exact cells_lt hc
  have hG : 6 ≤ W.heap.size := by omega
  exact ⟨Sha.tables_of hs hG, ⟨hG, hW⟩, hS⟩

/-- a world for the witness: the settled one, the tables as their initialisers lay them -/
noncomputable def laidWorld (os : Os) : World :=
  let w := World.holding Tryz.prog os ⟨#[], #[], []⟩
  { w with heap := ((((w.heap.modify 4 fun | .cells _ t fr => .cells (Sp.numsOf .u8 Sp.bru32) t fr | o => o).modify 5 fun | .cells _ t fr => .cells (Sp.numsOf .u8 Sp.bru) t fr | o => o).modify 0 fun | .cells _ t fr => .cells (Sha.numsOf .u32 Sha.firstT) t fr | o => o).modify 1 fun | .cells _ t fr => .cells (Sha.numsOf .u32 Sha.consT) t fr | o => o).modify 2 fun | .cells _ t fr => .cells Wr.classCells t fr | o => o }
theorem laid_met (os : Os) (args : Array Value) : laidMet Tryz.prog laidList ((laidWorld os).forCall (fun _ _ => 0) ⟨#[], args, []⟩).memory :=
  laidMet_of_run' 8 (by kernel_rfl) (by kernel_rfl)

section
variable {H : Type} {enc : TypeId × Value → H} {P : Program} {w : World} {base : Nat} {spare : Nat → Bool} {held : Bool}
/-- a slice of structs of one-cell fields, opened to its cells -/
theorem open_rows {t e : TypeId} {fs : Array Field} {fuel : Nat} {cs : List Value} {x : DataW H × List MemPlace} (ht : P.underlying t = some (.slice e)) (he : P.underlying e = some (.struct fs))
    (hone : Go.Deep.oneCellFields P fs = true) (hC : P.cellsOf e = fs.size) (h : DataW.trod enc P w base spare held fuel t cs = some x) :
    (cs = [.slice none 0 0]) ∨
    ∃ (a : Addr) (len cap m : Nat), cs = [.slice (some a) len cap] ∧ len ≤ cap ∧ cap ≤ maxLen ∧ m = (if spare a.block then cap else len) ∧
      ∀ i, i < m → ∃ (n : Nat), ∀ (j : Nat) (f : Field), fs[j]? = some f → ∃ (v : Value) (y : DataW H × List MemPlace), w.cell? (a.add (i * fs.size + j)) = some v ∧ DataW.trod enc P w base spare held n f.type [v] = some y := by
  rcases Go.Deep.open_slice ht h with ⟨h0, _⟩ | ⟨a, len, cap, m, n, D, Pl, hcs, hb, hl, hm, hmm, hx, hi⟩
  · exact .inl h0
  · refine .inr ⟨a, len, cap, m, hcs, hl, hm, hmm, fun i him => ?_⟩
    obtain ⟨cs', hc, ht'⟩ := hi i him
    rw [hC] at hc
    obtain ⟨ys, n', hn', hy, hlen, hyl, hf⟩ := DataW.trod_struct he ht'
    obtain ⟨_, hcl, hat⟩ := World.cells?_some hc
    refine ⟨n', fun j f hj => ?_⟩
    obtain ⟨ho, hk⟩ := Go.Deep.hone_of hone j f hj
    have hjl : j < fs.size := (Array.getElem?_eq_some_iff.1 hj).1
    have hcell := hat j hjl
    have hv : cs'[j]? = some (cs'[j]'(by omega)) := List.getElem?_eq_getElem (by omega)
    have h1 := hf j f hj
    rw [ho, hk] at h1
    have hone' : (cs'.drop j).take 1 = [cs'[j]'(by omega)] := by
      rw [List.drop_eq_getElem_cons (by omega)]
      rfl
    rw [hone'] at h1
    have hys : ys[j]? = some (ys[j]'(by omega)) := List.getElem?_eq_getElem (by omega)
    refine ⟨_, _, ?_, h1.trans hys⟩
    rw [← Go.Deep.add_add, hcell, hv]
end
section
variable {H : Type} {enc : TypeId × Value → H} {W : World} {held : Bool}
theorem txt_cam {n : Nat} {v : Value} {y : DataW H × List MemPlace} (h : DataW.trod enc Tryz.prog W 0 (fun _ => true) held n 33 [v] = some y) : ∃ A m c bs, v = .slice A m c ∧ Txt Any W A m c bs := by
  rcases open_ints Tryz.underlying33 Tryz.underlying5 (by kernel_rfl) h with ⟨hcs, _⟩ | ⟨x', l', c', zs, hcs, _, hl', hm', hz, _, hcell, hwz⟩
  · simp only [List.cons.injEq, and_true] at hcs
    subst hcs
    exact ⟨none, 0, 0, [], rfl, Txt.nil _ _⟩
  · simp only [List.cons.injEq, and_true] at hcs
    subst hcs
    exact ⟨some x', l', c', _, rfl, Wr.txt_of_row (.inr ⟨_, rfl, hl', hm', by simpa using hz, hcell, hwz⟩)⟩
theorem ints_cam {n : Nat} {v : Value} {y : DataW H × List MemPlace} (h : DataW.trod enc Tryz.prog W 0 (fun _ => true) held n 29 [v] = some y) : ∃ A m c xs, v = .slice A m c ∧ Ints Any W A m c xs := by
  rcases open_ints Tryz.underlying29 Tryz.underlying3 (by kernel_rfl) h with ⟨hcs, _⟩ | ⟨x', l', c', zs, hcs, _, hl', hm', hz, _, hcell, hwz⟩
  · simp only [List.cons.injEq, and_true] at hcs
    subst hcs
    exact ⟨none, 0, 0, [], rfl, Ints.nil _ _⟩
  · simp only [List.cons.injEq, and_true] at hcs
    subst hcs
    have hz' : zs.length = c' := by simpa using hz
    refine ⟨some x', l', c', zs.take l', rfl, by rw [List.length_take]; omega, hl', by unfold maxLen at hm'; omega, fun e => (by cases e), fun ad e => ?_, fun ad e j hj => ?_⟩
    · injection e with e
      subst e
      refine ⟨True.intro, fun hn => ?_⟩
      have hlt := block_lt_of_cell (hcell 0 (by omega))
      unfold Addr.add at hlt
      simpa using hlt
    · injection e with e
      subst e
      rw [hcell j (by omega)]
      unfold gi
      rw [List.getD_eq_getElem?_getD, List.getD_eq_getElem?_getD, List.getElem?_take_of_lt hj]
theorem nodes_cam {n : Nat} {v : Value} {y : DataW H × List MemPlace} (h : DataW.trod enc Tryz.prog W 0 (fun _ => true) held n 22 [v] = some y) : ∃ A m c ns, v = .slice A m c ∧ Nodes Any Any W A m c ns := by
  rcases open_rows Tryz.underlying22 Tryz.underlying37 (by kernel_rfl) (by kernel_rfl) h with hcs | ⟨ad, l, c, m, hcs, hl, hm, hmm, hx⟩
  · simp only [List.cons.injEq, and_true] at hcs
    subst hcs
    exact ⟨none, 0, 0, [], rfl, rfl, Nat.le_refl _, by omega, fun _ => rfl, fun _ e => (by cases e), fun _ e => (by cases e)⟩
  · simp only [List.cons.injEq, and_true] at hcs
    subst hcs
    rw [if_pos rfl] at hmm
    subst hmm
    have each : ∀ k, ∃ t : NdQ × Nd, k < m → NdAt W (ad.add (k * 6)) t.1 ∧ NdIs Any W t.1 t.2 := by
      intro k
      by_cases hk : k < m
      · obtain ⟨f, hf⟩ := hx k hk
        obtain ⟨v0, y0, c0, u0⟩ := hf 0 _ rfl
        obtain ⟨v1, y1, c1, u1⟩ := hf 1 _ rfl
        obtain ⟨v2, y2, c2, u2⟩ := hf 2 _ rfl
        obtain ⟨v3, y3, c3, u3⟩ := hf 3 _ rfl
        obtain ⟨v4, y4, c4, u4⟩ := hf 4 _ rfl
        obtain ⟨v5, y5, c5, u5⟩ := hf 5 _ rfl
        obtain ⟨q0, e0, _, _⟩ := DataW.trod_int Tryz.underlying3 u0
        simp only [List.cons.injEq, and_true] at e0
        subst e0
        obtain ⟨A1, n1, d1, b1, rfl, t1⟩ := txt_cam u1
        obtain ⟨A2, n2, d2, b2, rfl, t2⟩ := txt_cam u2
        obtain ⟨A3, n3, d3, b3, rfl, t3⟩ := txt_cam u3
        obtain ⟨A4, n4, d4, b4, rfl, t4⟩ := txt_cam u4
        obtain ⟨A5, n5, d5, b5, rfl, t5⟩ := ints_cam u5
        refine ⟨(⟨q0, A1, n1, d1, A2, n2, d2, A3, n3, d3, A4, n4, d4, A5, n5, d5⟩, ⟨q0, b1, b2, b3, b4, b5⟩), fun _ => ⟨fun i hi => ?_, ⟨rfl, t1, t2, t3, t4, t5⟩⟩⟩
        rw [Go.Deep.add_add]
        match i, hi with
        | 0, _ => exact c0
        | 1, _ => exact c1
        | 2, _ => exact c2
        | 3, _ => exact c3
        | 4, _ => exact c4
        | 5, _ => exact c5
      · exact ⟨(zeroQ, blank), fun h => absurd h hk⟩
    obtain ⟨t, ht⟩ := Classical.axiomOfChoice each
    refine ⟨some ad, l, m, (List.range l).map fun k => (t k).2, rfl, by simp, hl, by unfold maxLen at hm; omega, fun e => (by cases e), fun a e => ?_, fun a e j hj => ?_⟩
    · injection e with e
      subst e
      refine ⟨True.intro, fun hn => ?_⟩
      have hlt := block_lt_of_cell (ht 0 (by omega)).1.cells.1
      unfold Addr.add at hlt
      simpa using hlt
    · injection e with e
      subst e
      refine ⟨(t j).1, (ht j (by omega)).1, ?_⟩
      have e : nd ((List.range l).map fun k => (t k).2) j = (t j).2 := by
        unfold nd
        rw [List.getD_eq_getElem?_getD, List.getElem?_map, List.getElem?_range hj]; rfl
      rw [e]
      exact (ht j (by omega)).2
/-- a tree that came in -/
theorem tree_cam {base : Nat} {v : Value} {d : DataW H} {p : List MemPlace} (hv : Value.okWide Tryz.prog W .any base 24 v) (h : DataW.Trod enc Tryz.prog W 0 (fun _ => true) held 24 v d p) :
    ∃ D A n c ns, v = .agg #[.int .i64 D, .slice A n c] ∧ Nodes Any Any W A n c ns := by
  obtain ⟨v0, v1, y0, y1, f, rfl, _, _, u0, u1⟩ := Go.Joins.open_agg2 Tryz.underlying24 (by kernel_rfl) (by kernel_rfl) hv h
  obtain ⟨q0, e0, _, _⟩ := DataW.trod_int Tryz.underlying3 u0
  simp only [List.cons.injEq, and_true] at e0
  subst e0
  obtain ⟨A, n, c, ns, rfl, hN⟩ := nodes_cam u1
  exact ⟨q0, A, n, c, ns, rfl, hN⟩
end
end Go.Proofs.YtophnoaneoeiaaaGreatDoor.Rt
