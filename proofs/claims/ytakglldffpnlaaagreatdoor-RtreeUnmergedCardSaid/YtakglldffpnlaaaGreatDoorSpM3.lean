/- Walks: the document's own: Of. Walks: Path. Walks: the document's own: up, Number, Up, Right, Index; the program's Right in the same words. Walks: the document's own: Index, Right, Over, Other, Down. Walks: the document's own: Over, Other, Down. What each call tells, as premises that a walk may choose among; head. -/
import Derived.Test.YtakglldffpnlaaaGreatDoorSpM2
import Derived.Below
import Derived.StillTail
import Derived.StillTailTactics
import Derived.Deep.RegionHeld3
import Derived.Laws.CopyOwn
import Derived.Deep.WholeRow
import Derived.WalkMore
import Derived.ScopeJumps
import Derived.OwnWalk
namespace Go.Proofs.YtakglldffpnlaaaGreatDoor.Sp
set_option linter.all false
set_option maxRecDepth 100000
open Go.RowKit Fl

theorem fl65536 : fl 65536 = 4679240012837945344 := by rw [fl_word 65536 (by decide)]; decide
theorem Nz.geb {x n : Nat} (hx : Nz x n) (h : n < 2 ^ 52) : (FloatKind.f64.format.order x 0 == some .gt || FloatKind.f64.format.order x 0 == some .eq) = true := by
  rcases Fl.Nz.ge hx h with e | e <;> (rw [show FloatKind.f64.format = Ieee.double from rfl, e]; rfl)
theorem Nz.leb {x n m : Nat} (hx : Nz x n) (hn : n ≤ m) (h : m < 2 ^ 52) : (FloatKind.f64.format.order x (fl m) == some .lt || FloatKind.f64.format.order x (fl m) == some .eq) = true := by
  rcases Fl.Nz.le hx hn h with e | e <;> (rw [show FloatKind.f64.format = Ieee.double from rfl, e]; rfl)
theorem Nz.ltb {x n m : Nat} (hx : Nz x n) (hn : n < m) (h : m < 2 ^ 52) : (FloatKind.f64.format.order x (fl m) == some .lt) = true := by
  rw [show FloatKind.f64.format = Ieee.double from rfl, order_nz hx (nz_fl m) (by omega) (by omega), Nat.compare_eq_lt.2 hn]; rfl

/-- the cells of a spot of the document's -/
def cs3 (a b : Int) (c : Bool) : Array Value := #[.int .i64 a, .int .i64 b, .bool c]
/-- a spot of the document's lies in block g -/
def St (g : Nat) (a b : Int) (c : Bool) (w : World) : Prop := w.heap[g]? = some (.cells (cs3 a b c) 72 (0, 0))
theorem St.c0 {g : Nat} {a b : Int} {c : Bool} {w : World} (h : St g a b c w) : w.cell? ⟨g, 0, none⟩ = some (.int .i64 a) := by
  unfold St at h; simp only [World.cell?, h]; rfl
theorem St.c1 {g : Nat} {a b : Int} {c : Bool} {w : World} (h : St g a b c w) : w.cell? ⟨g, 1, none⟩ = some (.int .i64 b) := by
  unfold St at h; simp only [World.cell?, h]; rfl
theorem St.c2 {g : Nat} {a b : Int} {c : Bool} {w : World} (h : St g a b c w) : w.cell? ⟨g, 2, none⟩ = some (.bool c) := by
  unfold St at h; simp only [World.cell?, h]; rfl
theorem St.lt {g : Nat} {a b : Int} {c : Bool} {w : World} (h : St g a b c w) : g < w.heap.size := (Array.getElem?_eq_some_iff.1 h).1
theorem St.below {g : Nat} {a b : Int} {c : Bool} {w w' : World} (h : St g a b c w) (hb : Below w.heap.size w w') : St g a b c w' := (hb.block g h.lt).trans h
theorem St.drew {g : Nat} {a b : Int} {c : Bool} {w : World} (h : St g a b c w) : St g a b c w.drew := h
theorem st_sized (a b : Int) (c : Bool) : (Tryz.prog.info? 72).map (·.size) = some (cs3 a b c).size := by
  rw [show (Tryz.prog.info? 72).map (·.size) = some 3 by kernel_rfl]; rfl
theorem st_all (a b : Int) (c : Bool) : (cs3 a b c).all (·.oneCell') = true := by simp [cs3, Value.oneCell']
theorem st_new (w : World) (a b : Int) (c : Bool) : St w.heap.size a b c (w.alloc (.cells #[.int .i64 a, .int .i64 b, .bool c] 72)) := by
  exact heap_alloc_last w _
theorem two_new (w : World) (a b : Int) : ∃ W, ((w.alloc (.cells #[.int .i64 0, .int .i64 0, .bool false] 72)).alloc (.cells #[.int .i64 a, .int .i64 b, .bool true] 72)) = W ∧ St w.heap.size 0 0 false W ∧ St (w.heap.size + 1) a b true W ∧ Hid (Below w.heap.size w W) := by
  have S1 := st_new w 0 0 false
  have S2 := st_new (w.alloc (.cells #[.int .i64 0, .int .i64 0, .bool false] 72)) a b true
  have HB := Lib.hid (((Below.refl w.heap.size w).alloc (Nat.le_refl _) (.cells #[.int .i64 0, .int .i64 0, .bool false] 72)).alloc (by simp) (.cells #[.int .i64 a, .int .i64 b, .bool true] 72))
  have e1 : (w.alloc (.cells #[.int .i64 0, .int .i64 0, .bool false] 72)).heap.size = w.heap.size + 1 := by simp
  have hb2 : Below (w.heap.size + 1) (w.alloc (.cells #[.int .i64 0, .int .i64 0, .bool false] 72)) ((w.alloc (.cells #[.int .i64 0, .int .i64 0, .bool false] 72)).alloc (.cells #[.int .i64 a, .int .i64 b, .bool true] 72)) := by
    rw [← e1]; exact (Below.refl _ _).alloc (Nat.le_refl _) _
  have S1 := S1.below (by rw [e1]; exact hb2)
  rw [e1] at S2
  exact ⟨_, rfl, S1, S2, HB⟩
/-- the document's spot -/
def ofF : Option (Nat × Nat) → Value
  | some (l, p) => .agg #[.int .i64 (l : Int), .int .i64 (p : Int), .bool true]
  | none => .agg #[.int .i64 0, .int .i64 0, .bool false]

set_option maxHeartbeats 1000000 in
theorem of_yes (re im l p : Nat) (w : World) (hs : Spot re im 16 l p) :
    Calls Tryz.prog 53 #[.complex .f64 re im] w fun e w' => e = .returned (.agg #[.int .i64 (l : Int), .int .i64 (p : Int), .bool true]) ∧ Below w.heap.size w w' := by
  have b1 := hs.lev
  have b2 := hs.small (by decide)
  have c1 := Nz.geb hs.re (by omega)
  have c2 := Nz.leb hs.re hs.lev (by decide)
  rw [fl16] at c2
  have c3 := Nz.geb hs.im (by omega)
  have c4 := Nz.ltb hs.im b2 (by decide)
  rw [fl65536] at c4
  have i1 := int_run hs.re (by omega)
  have i2 := int_run hs.im (by omega)
  have n1 := nearest_is l
  have n2 := nearest_is p
  have o1 : FloatKind.f64.format.order (fl l) re = some .eq := by rw [show FloatKind.f64.format = Ieee.double from rfl, order_nz (nz_fl l) hs.re (by omega) (by omega), Nat.compare_eq_eq.2 rfl]
  have o2 : FloatKind.f64.format.order (fl p) im = some .eq := by rw [show FloatKind.f64.format = Ieee.double from rfl, order_nz (nz_fl p) hs.im (by omega) (by omega), Nat.compare_eq_eq.2 rfl]
  obtain ⟨x, hx⟩ : ∃ x, fl l = x := ⟨_, rfl⟩
  obtain ⟨y, hy⟩ : ∃ y, fl p = y := ⟨_, rfl⟩
  rw [hx] at n1 o1
  rw [hy] at n2 o2
  obtain ⟨q, hq⟩ : ∃ q, q + l = 16 := ⟨16 - l, by omega⟩
  have x1 : 16 - (l : Int) = (q : Int) := by omega
  obtain ⟨n, hn⟩ : ∃ n, 2 ^ q = n := ⟨_, rfl⟩
  have hp := hs.pl
  rw [show 16 - l = q by omega, hn] at hp
  have x2 : (2 : Int) ^ q = (n : Int) := by rw [← hn]; simp
  have b3 : n ≤ 65536 := by rw [← hn]; exact pow_le q (by omega)
  have wq : IntKind.i64.wrap (q : Int) = (q : Int) := by rw [IntKind.wrap_i64]; omega
  have wn : IntKind.i64.wrap (n : Int) = (n : Int) := by rw [IntKind.wrap_i64]; omega
  clear hs hx hy hq hn
  go_enter Tryz.func53, Tryz.ntmps53
  go_wp2
  obtain ⟨W, hW, S1, S2, HB⟩ := two_new w l p
  rw [hW]
  clear hW
  have q0 := S2.drew.c0; have q1 := S2.drew.c1; have q2 := S2.drew.c2
  have H1 := Lib.hid S1.drew; have H2 := Lib.hid S2.drew; have HB2 := Lib.hid HB.out.drew
  clear S1 S2 HB
  refine wp_region_still_lit rfl (by kernel_rfl) ?_
  repeat still_step
  refine wpStill_nil ?_
  change Exit.then _ _ Exit.normal _ (World.drew _)
  go_wp2_with (refine wpList_store_row rfl 72 (.tmp 2) (.tmp 53) rfl w.heap.size (cs3 l p true) rfl rfl 72 (cs3 0 0 false) H1.out (st_sized _ _ _) rfl (st_all _ _ _) ?_)
  refine bodyPost_ret (v := .agg (cs3 l p true)) (results_cell_row (p := 2) (ty := 72) (by kernel_rfl) _ _ w.heap.size 72 (cs3 l p true) (0, 0) _ rfl (setRow_heap _ _ _ _ _ _ H1.out) Tryz.underlying72 rfl (st_sized _ _ _)) rfl ⟨rfl, below_setRow HB2.out (Nat.le_refl _) _⟩

set_option maxHeartbeats 2000000 in
theorem of_out (re im : Nat) (w : World) (a b c d : Bool) (h1 : (FloatKind.f64.format.order re 0 == some .gt || FloatKind.f64.format.order re 0 == some .eq) = a)
    (h2 : (FloatKind.f64.format.order re 4625196817309499392 == some .lt || FloatKind.f64.format.order re 4625196817309499392 == some .eq) = b)
    (h3 : (FloatKind.f64.format.order im 0 == some .gt || FloatKind.f64.format.order im 0 == some .eq) = c) (h4 : (FloatKind.f64.format.order im 4679240012837945344 == some .lt) = d) (h : (a && b && c && d) = false) :
    Calls Tryz.prog 53 #[.complex .f64 re im] w fun e w' => e = .returned (.agg #[.int .i64 0, .int .i64 0, .bool false]) ∧ Below w.heap.size w w' := by
  have H1 := Lib.hid (st_new w 0 0 false)
  have HB := Lib.hid ((Below.refl w.heap.size w).alloc (Nat.le_refl _) (.cells #[.int .i64 0, .int .i64 0, .bool false] 72))
  cases a <;> cases b <;> cases c <;> cases d <;> first | (exfalso; revert h; decide) | skip
  all_goals
    clear h
    go_enter Tryz.func53, Tryz.ntmps53
    go_wp2_with (refine wpList_store_row rfl 72 (.tmp 2) (.tmp 25) rfl w.heap.size (cs3 0 0 false) rfl rfl 72 (cs3 0 0 false) H1.out (st_sized _ _ _) rfl (st_all _ _ _) ?_)
    refine bodyPost_ret (v := .agg (cs3 0 0 false)) (results_cell_row (p := 2) (ty := 72) (by kernel_rfl) _ _ w.heap.size 72 (cs3 0 0 false) (0, 0) _ rfl (setRow_heap _ _ _ _ _ _ H1.out) Tryz.underlying72 rfl (st_sized _ _ _)) rfl ⟨rfl, below_setRow HB.out (Nat.le_refl _) _⟩

theorem int_run' {x n : Nat} (h : (Ieee.double.read x).toInt .zero = some ((n : Nat) : Int)) (hn : n < 2 ^ 52) (w : World) : (convert 96 3 (.float .f64 x)).run Tryz.prog w = .ok (.int .i64 (n : Int)) w := by
  refine run_convert_float_int w _ _ .f64 .i64 x n (by rw [Tryz.underlying96]; rfl) Tryz.underlying3 ?_
  have h : (FloatKind.f64.decode x).toInt .zero = some (n : Int) := h
  unfold floatToIntVal
  rw [h]
  exact if_pos ⟨by show (-9223372036854775808 : Int) ≤ n; omega, by show (n : Int) ≤ 9223372036854775807; omega⟩
set_option maxHeartbeats 2000000 in
theorem of_in (re im L P : Nat) (w : World) (c1 : (FloatKind.f64.format.order re 0 == some .gt || FloatKind.f64.format.order re 0 == some .eq) = true)
    (c2 : (FloatKind.f64.format.order re 4625196817309499392 == some .lt || FloatKind.f64.format.order re 4625196817309499392 == some .eq) = true)
    (c3 : (FloatKind.f64.format.order im 0 == some .gt || FloatKind.f64.format.order im 0 == some .eq) = true) (c4 : (FloatKind.f64.format.order im 4679240012837945344 == some .lt) = true)
    (i1 : ∀ w, (convert 96 3 (.float .f64 re)).run Tryz.prog w = .ok (.int .i64 (L : Int)) w) (i2 : ∀ w, (convert 96 3 (.float .f64 im)).run Tryz.prog w = .ok (.int .i64 (P : Int)) w)
    (b1 : L ≤ 16) (b2 : P ≤ 65536) (a b : Bool) (o1 : (FloatKind.f64.format.order (fl L) re != some .eq) = a) (o2 : (FloatKind.f64.format.order (fl P) im != some .eq) = b) (h : a = false → b = false → 2 ^ (16 - L) ≤ P) :
    Calls Tryz.prog 53 #[.complex .f64 re im] w fun e w' => e = .returned (.agg #[.int .i64 0, .int .i64 0, .bool false]) ∧ Below w.heap.size w w' := by
  have n1 := nearest_is L
  have n2 := nearest_is P
  obtain ⟨x, hx⟩ : ∃ x, fl L = x := ⟨_, rfl⟩
  obtain ⟨y, hy⟩ : ∃ y, fl P = y := ⟨_, rfl⟩
  rw [hx] at n1 o1
  rw [hy] at n2 o2
  obtain ⟨q, hq⟩ : ∃ q, q + L = 16 := ⟨16 - L, by omega⟩
  have x1 : 16 - (L : Int) = (q : Int) := by omega
  obtain ⟨n, hn⟩ : ∃ n, 2 ^ q = n := ⟨_, rfl⟩
  rw [show 16 - L = q by omega, hn] at h
  have x2 : (2 : Int) ^ q = (n : Int) := by rw [← hn]; simp
  have b3 : n ≤ 65536 := by rw [← hn]; exact pow_le q (by omega)
  have wq : IntKind.i64.wrap (q : Int) = (q : Int) := by rw [IntKind.wrap_i64]; omega
  have wn : IntKind.i64.wrap (n : Int) = (n : Int) := by rw [IntKind.wrap_i64]; omega
  clear hx hy hq hn
  cases a with
  | true =>
    clear h
    go_enter Tryz.func53, Tryz.ntmps53
    go_wp2
    obtain ⟨W, hW, S1, S2, HB⟩ := two_new w L P
    rw [hW]
    clear hW
    have q0 := S2.drew.c0; have q1 := S2.drew.c1; have q2 := S2.drew.c2
    have H1 := Lib.hid S1.drew; have HB2 := Lib.hid HB.out.drew
    clear S1 S2 HB
    refine wp_region_still_lit rfl (by kernel_rfl) ?_
    iterate 6 still_step
    iterate 5 (unfold wpStill; rw [if_neg (Bool.eq_false_iff.1 (by kernel_rfl))]; simp only [Act.put, List.setIfInBounds_toArray, List.set_cons_zero, List.set_cons_succ])
    iterate 2 still_step
    iterate 7 (unfold wpStill; rw [if_neg (Bool.eq_false_iff.1 (by kernel_rfl))]; simp only [Act.put, List.setIfInBounds_toArray, List.set_cons_zero, List.set_cons_succ])
    still_step
    refine wpStill_nil ?_
    change Exit.then _ _ Exit.normal _ (World.drew _)
    go_wp2_with (refine wpList_store_row rfl 72 (.tmp 2) (.tmp 52) rfl w.heap.size (cs3 0 0 false) rfl rfl 72 (cs3 0 0 false) H1.out (st_sized _ _ _) rfl (st_all _ _ _) ?_)
    refine bodyPost_ret (v := .agg (cs3 0 0 false)) (results_cell_row (p := 2) (ty := 72) (by kernel_rfl) _ _ w.heap.size 72 (cs3 0 0 false) (0, 0) _ rfl (setRow_heap _ _ _ _ _ _ H1.out) Tryz.underlying72 rfl (st_sized _ _ _)) rfl ⟨rfl, below_setRow HB2.out (Nat.le_refl _) _⟩
  | false =>
    cases b with
    | true =>
      clear h
      go_enter Tryz.func53, Tryz.ntmps53
      go_wp2
      obtain ⟨W, hW, S1, S2, HB⟩ := two_new w L P
      rw [hW]
      clear hW
      have q0 := S2.drew.c0; have q1 := S2.drew.c1; have q2 := S2.drew.c2
      have H1 := Lib.hid S1.drew; have HB2 := Lib.hid HB.out.drew
      clear S1 S2 HB
      refine wp_region_still_lit rfl (by kernel_rfl) ?_
      iterate 13 still_step
      iterate 7 (unfold wpStill; rw [if_neg (Bool.eq_false_iff.1 (by kernel_rfl))]; simp only [Act.put, List.setIfInBounds_toArray, List.set_cons_zero, List.set_cons_succ])
      still_step
      refine wpStill_nil ?_
      change Exit.then _ _ Exit.normal _ (World.drew _)
      go_wp2_with (refine wpList_store_row rfl 72 (.tmp 2) (.tmp 52) rfl w.heap.size (cs3 0 0 false) rfl rfl 72 (cs3 0 0 false) H1.out (st_sized _ _ _) rfl (st_all _ _ _) ?_)
      refine bodyPost_ret (v := .agg (cs3 0 0 false)) (results_cell_row (p := 2) (ty := 72) (by kernel_rfl) _ _ w.heap.size 72 (cs3 0 0 false) (0, 0) _ rfl (setRow_heap _ _ _ _ _ _ H1.out) Tryz.underlying72 rfl (st_sized _ _ _)) rfl ⟨rfl, below_setRow HB2.out (Nat.le_refl _) _⟩
    | false =>
      have h := h rfl rfl
      go_enter Tryz.func53, Tryz.ntmps53
      go_wp2
      obtain ⟨W, hW, S1, S2, HB⟩ := two_new w L P
      rw [hW]
      clear hW
      have q0 := S2.drew.c0; have q1 := S2.drew.c1; have q2 := S2.drew.c2
      have H1 := Lib.hid S1.drew; have HB2 := Lib.hid HB.out.drew
      clear S1 S2 HB
      refine wp_region_still_lit rfl (by kernel_rfl) ?_
      repeat still_step
      refine wpStill_nil ?_
      change Exit.then _ _ Exit.normal _ (World.drew _)
      go_wp2_with (refine wpList_store_row rfl 72 (.tmp 2) (.tmp 52) rfl w.heap.size (cs3 0 0 false) rfl rfl 72 (cs3 0 0 false) H1.out (st_sized _ _ _) rfl (st_all _ _ _) ?_)
      refine bodyPost_ret (v := .agg (cs3 0 0 false)) (results_cell_row (p := 2) (ty := 72) (by kernel_rfl) _ _ w.heap.size 72 (cs3 0 0 false) (0, 0) _ rfl (setRow_heap _ _ _ _ _ _ H1.out) Tryz.underlying72 rfl (st_sized _ _ _)) rfl ⟨rfl, below_setRow HB2.out (Nat.le_refl _) _⟩

/-- the document's Of: the spot, or none -/
theorem of_is (re im : Nat) (o : Option (Nat × Nat)) (w : World) (ho : Is re im o) :
    Calls Tryz.prog 53 #[.complex .f64 re im] w fun e w' => e = .returned (ofF o) ∧ Below w.heap.size w w' := by
  rcases o with _ | ⟨l, p⟩
  · obtain ⟨h1, h2, hno⟩ := ho
    by_cases hr : ((FloatKind.f64.format.order re 0 == some .gt || FloatKind.f64.format.order re 0 == some .eq) && (FloatKind.f64.format.order re 4625196817309499392 == some .lt || FloatKind.f64.format.order re 4625196817309499392 == some .eq) && (FloatKind.f64.format.order im 0 == some .gt || FloatKind.f64.format.order im 0 == some .eq) && (FloatKind.f64.format.order im 4679240012837945344 == some .lt)) = true
    · simp only [Bool.and_eq_true] at hr
      obtain ⟨⟨⟨c1, c2⟩, c3⟩, c4⟩ := hr
      have d1 : Ieee.double.order re 0 = some .gt ∨ Ieee.double.order re 0 = some .eq := by have h := c1; simp only [Bool.or_eq_true, beq_iff_eq] at h; exact h
      have d2 : Ieee.double.order re (fl 16) = some .lt ∨ Ieee.double.order re (fl 16) = some .eq := by rw [fl16]; have h := c2; simp only [Bool.or_eq_true, beq_iff_eq] at h; exact h
      have d3 : Ieee.double.order im 0 = some .gt ∨ Ieee.double.order im 0 = some .eq := by have h := c3; simp only [Bool.or_eq_true, beq_iff_eq] at h; exact h
      have d4 : Ieee.double.order im (fl 65536) = some .lt ∨ Ieee.double.order im (fl 65536) = some .eq := by rw [fl65536]; exact .inl (by have h := c4; simp only [beq_iff_eq] at h; exact h)
      obtain ⟨-, -, -, L, -, -, hL, tL, -, -, eL⟩ := whole re 16 h1 (by decide) d1 d2
      obtain ⟨-, -, -, P, -, -, hP, tP, -, -, eP⟩ := whole im 65536 h2 (by decide) d3 d4
      refine of_in re im L P w c1 c2 c3 c4 (int_run' tL (by omega)) (int_run' tP (by omega)) hL hP _ _ rfl rfl ?_
      intro e1 e2
      have g1 := eL (by have h := e1; simp only [bne_eq_false_iff_eq] at h; exact h)
      have g2 := eP (by have h := e2; simp only [bne_eq_false_iff_eq] at h; exact h)
      exact Nat.le_of_not_lt fun hlt => hno L P ⟨g1, g2, hL, hlt⟩
    · exact of_out re im w _ _ _ _ rfl rfl rfl rfl (by simpa only [Bool.not_eq_true] using hr)
  · exact of_yes re im l p w ho
end Go.Proofs.YtakglldffpnlaaaGreatDoor.Sp

namespace Go.Proofs.YtakglldffpnlaaaGreatDoor.Sp
set_option linter.all false
set_option maxRecDepth 100000
open Go.RowKit Fl

theorem wp_scope_round {P : Program} {a : Act} {w : World} {Q : Exit → Act → World → Prop} {c rest : Code} (l : Nat) (J : Act → World → Prop) (μ : Act → World → Nat) (hf : findLabel c l = some (Code.seq .skip rest))
    (pass : ∀ a w, J a w → rest.wp P (Exit.jump l (fun a' w' => J a' w' ∧ μ a' w' < μ a w) Q) a w)
    (first : (∀ a w, J a w → rest.wp P (Exit.jump l J Q) a w) → c.wp P (Exit.jump l J Q) a w) : (Code.scope c).wp P Q a w :=
  wp_scope_jumps l J μ hf (first fun a w h => Code.wp_mono (fun e a' w' h' => by
    cases e <;> first | exact h' | exact ⟨h'.1, h'.2.1⟩) (pass a w h)) fun a w h => wp_seq (wp_skip (pass a w h))

/-- the spots above a leaf, as values -/
def pathL (a k : Nat) : List Value := (List.range k).map fun i => .complex .f64 (fl (i + 1)) (fl (a / 2 ^ (i + 1)))
theorem pathL_succ (a k : Nat) : pathL a (k + 1) = pathL a k ++ [.complex .f64 (fl (k + 1)) (fl (a / 2 ^ (k + 1)))] := by
  simp [pathL, List.range_succ]
theorem pathL_len (a k : Nat) : (pathL a k).length = k := by simp [pathL]
theorem row_below {w w' : World} {base n : Nat} {v : Value} {xs : List Value} (h : w.ownsRow base 48 1 v n xs) (hb : Below w.heap.size w w') : w'.ownsRow base 48 1 v n xs := by
  refine h.kept (row := none) ⟨hb.os, hb.tape, hb.output, hb.size, fun i hi _ => hb.block i hi⟩ ?_
  cases hq : v.ownBlock with
  | none => exact .inl rfl
  | some g => exact .inr (by simp)
theorem below_row {w w1 w2 : World} {g n c : Nat} {xs : List Value} (h : Below w.heap.size w w1) (ho : w1.ownsRow w.heap.size 48 1 (.slice (some ⟨g, 0, none⟩) n c) n xs) (k : w1.grownBy w2 (some g)) : Below w.heap.size w w2 := by
  refine ⟨k.os.trans h.os, k.tape.trans h.tape, k.output.trans h.output, Nat.le_trans h.size k.size, fun i hi => (k.block i (Nat.lt_of_lt_of_le hi h.size) ?_).trans (h.block i hi)⟩
  intro e
  have := (ho.lt g rfl).1
  injection e with e
  omega
theorem below_of_grown {w w' : World} (h : w.grownBy w' none) : Below w.heap.size w w' := ⟨h.os, h.tape, h.output, h.size, fun i hi => h.block i hi (by simp)⟩
theorem one_cell (w : World) (u : Value) : ∀ j v, ([u] : List Value)[j]? = some v → (w.alloc (.cells #[u] 48)).cell? ((⟨w.heap.size, 0, none⟩ : Addr).add j) = some v := by
  intro j v h
  cases j with
  | zero =>
    simp at h
    subst h
    have ha : (⟨w.heap.size, 0, none⟩ : Addr).add 0 = ⟨w.heap.size, 0, none⟩ := by unfold Addr.add; split <;> simp_all
    have hg := heap_alloc_last w (.cells #[u] 48)
    rw [ha]
    simp only [World.cell?, hg]
    rfl
  | succ j => simp at h
theorem is_step (a k : Nat) (ha : a < 65536) (hk : k ≤ 16) : Is (fl k) (fl (a / 2 ^ k)) (some (k, a / 2 ^ k)) := by
  refine ⟨nz_fl _, nz_fl _, hk, ?_⟩
  rw [Nat.div_lt_iff_lt_mul (Nat.two_pow_pos k), ← Nat.pow_add, show 16 - k + k = 16 by omega]
  exact ha
theorem cInfo : (Tryz.prog.info? 48).map (fun i => (i.zero, i.size, i.bytes)) = some (some (.complex .f64 0 0), 1, 16) := by kernel_rfl

set_option maxHeartbeats 2000000 in
set_option maxRecDepth 100000 in
theorem path_is (a d : Nat) (w : World) (hd : d ≤ 16) (ha : a < 2 ^ d) :
    Calls Tryz.prog 61 #[.int .i64 (a : Int), .int .i64 (d : Int)] w fun e w' => ∃ g, e = .returned (.slice (some ⟨g, 0, none⟩) d d) ∧ w'.ownsRow w.heap.size 48 1 (.slice (some ⟨g, 0, none⟩) d d) d (pathL a d) ∧ Below w.heap.size w w' := by
  have ha16 : a < 65536 := Nat.lt_of_lt_of_le ha (pow_le d hd)
  have C1 := Lib.hid (isLeaf_is (a : Int) (d : Int) true w (by
    apply decide_eq_true
    refine ⟨by omega, by omega, by omega, ?_⟩
    rw [Int.toNat_natCast]; exact_mod_cast ha))
  obtain ⟨x0, hx0⟩ : ∃ x, fl 0 = x := ⟨_, rfl⟩
  obtain ⟨y0, hy0⟩ : ∃ y, fl (a / 2 ^ 0) = y := ⟨_, rfl⟩
  have H0 := Lib.hid (And.intro hx0 hy0)
  have C2 := fun w => Lib.hid (leaf_is (a : Int) x0 y0 w (by
    rw [leafF, if_pos ⟨by omega, by omega⟩]
    exact ⟨hx0, by rw [← hy0]; simp⟩))
  clear hx0 hy0
  obtain ⟨i, hi, hz, hs, hb⟩ := info_parts cInfo
  have HA := Lib.hid ha16
  clear ha ha16
  go_enter Tryz.func61, Tryz.ntmps61
  go_wp2
  obtain ⟨J, HJ⟩ : ∃ J : Act → World → Prop, Hid (∀ a' w', J a' w' ↔ ∃ (g k x y : Nat) (u7 u8 u9 u10 u11 u12 u13 u14 u15 u16 u17 u18 u19 u20 u21 u22 u23 u24 u25 : Value), a' = { tmps := #[.int .i64 (a : Int), .int .i64 (d : Int), undef, undef, .slice none 0 0, .slice (some ⟨g, 0, none⟩) k d, .complex .f64 x y, u7, u8, u9, u10, u11, u12, u13, u14, u15, u16, u17, u18, u19, u20, u21, u22, u23, u24, u25], defers := [] } ∧ k ≤ d ∧ Hid (fl k = x ∧ fl (a / 2 ^ k) = y) ∧ Hid (w'.ownsRow w.heap.size 48 1 (.slice (some ⟨g, 0, none⟩) k d) k (pathL a k)) ∧ Hid (Below w.heap.size w w')) := ⟨_, Lib.hid fun _ _ => Iff.rfl⟩
  refine wp_scope_round 0 J (fun a' _ => d - (match a'.tmps.getD 5 undef with | .slice _ n _ => n | _ => 0)) rfl ?pass ?first
  case first =>
    intro hpass
    go_wp2_with (first | (go_at_call 87; refine C1.out.mono ?_; rintro e' w' ⟨rfl, rfl⟩) | (at_make; skip; refine wpList_make_own _ rfl _ _ _ rfl w.heap.size 48 i (.complex .f64 0 0) 1 Tryz.underlying45 hi hz hs .i64 .i64 (d : Int) d rfl rfl rfl (by rw [hb]; omega) (by unfold maxLen; omega) (Nat.le_refl _) ?_; intro w1 hO1 hG1; have HO1 := Lib.hid hO1; have HB1 := Lib.hid (below_of_grown hG1); clear hO1 hG1) | (go_at_call 88; refine (C2 _).out.mono ?_; rintro e' w' ⟨rfl, rfl⟩) | go_in)
    go_step3
    rename_i hgo
    refine hgo _ _ (hpass _ _ ?_)
    refine (HJ.out _ _).2 ⟨_, 0, _, _, _, _, _, _, _, _, _, _, _, _, _, _, _, _, _, _, _, _, _, rfl, by omega, H0, HO1, HB1⟩
  case pass =>
    intro a' W hJ
    replace hJ := (HJ.out _ _).1 hJ
    obtain ⟨g, k, x, y, hJ⟩ := hJ
    iterate 19 (obtain ⟨_, hJ⟩ := hJ)
    obtain ⟨hfr, hk, HXY, HO, HW⟩ := hJ
    subst hfr
    by_cases hkd : k < d
    · have yk : (k : Int) < (d : Int) := by omega
      have hup := is_step a k HA.out (by omega)
      rw [HXY.out.1, HXY.out.2] at hup
      obtain ⟨x1, hx1⟩ : ∃ x, fl (k + 1) = x := ⟨_, rfl⟩
      obtain ⟨y1, hy1⟩ : ∃ y, fl (a / 2 ^ (k + 1)) = y := ⟨_, rfl⟩
      have C3 := fun w => Lib.hid (up_is x y x1 y1 _ w hup (by
        simp only [upF, if_neg (show ¬ k = 16 by omega)]
        exact ⟨hx1, by rw [← hy1, Nat.pow_succ, ← Nat.div_div_eq_div_mul]⟩))
      have HXY1 := Lib.hid (And.intro hx1 hy1)
      have HPL : Hid (pathL a k ++ [.complex .f64 x1 y1] = pathL a (k + 1)) := Lib.hid (by rw [pathL_succ, hx1, hy1])
      clear hup hx1 hy1
      go_wp2_with (first | (go_at_call 89; refine (C3 _).out.mono ?_; rintro e' w' ⟨rfl, rfl⟩) | (at_builtin; refine wpList_append_fits _ rfl (.tmp 21) (.tmp 23) 45 rfl w.heap.size 48 i 1 Tryz.underlying45 hi hs g k d (pathL a k) rfl (HO.out.alloc _) ⟨W.heap.size, 0, none⟩ 1 1 [.complex .f64 x1 y1] rfl rfl (one_cell _ _) (by intro u hu; simp at hu; subst hu; rfl) (by omega) ?_; intro w1 hO1 hG1; have HO1 := Lib.hid hO1; have HB1 := Lib.hid (below_row (HW.out.alloc HW.out.size _) (HO.out.alloc _) hG1); clear hO1 hG1) | go_in)
      go_step3
      refine ⟨rfl, (HJ.out _ _).2 ⟨g, k + 1, _, _, _, _, _, _, _, _, _, _, _, _, _, _, _, _, _, _, _, _, _, rfl, by omega, HXY1, Lib.hid (by rw [← HPL.out]; exact HO1.out), HB1⟩, ?_⟩
      show d - (k + 1) < d - k
      omega
    · obtain rfl : k = d := by omega
      go_wp2
      unfold Exit.jump
      dsimp only
      go_ret
      exact ⟨g, rfl, HO.out, HW.out⟩
end Go.Proofs.YtakglldffpnlaaaGreatDoor.Sp

namespace Go.Proofs.YtakglldffpnlaaaGreatDoor.Sp
set_option linter.all false
set_option maxRecDepth 100000
open Go.RowKit Fl

theorem nz_one {x a b : Nat} (h : Nz x a) (k : Nz x b) (ha : a < 2 ^ 52) (hb : b < 2 ^ 52) : a = b := by
  have h1 := toInt_nz h (by omega)
  have h2 := toInt_nz k (by omega)
  rw [h1] at h2
  have := Option.some.inj h2
  omega
/-- is it a spot of a tree so deep -/
def rightF (d : Int) : Option (Nat × Nat) → Bool
  | some (l, p) => decide (0 ≤ d ∧ d ≤ 16 ∧ (l : Int) ≤ d ∧ (p : Int) < 2 ^ (d - l).toNat)
  | none => false
theorem right_is (re im : Nat) (d : Int) (o : Option (Nat × Nat)) (b : Bool) (w : World) (ho : Is re im o) (hb : rightF d o = b) :
    Calls Tryz.prog 78 #[.complex .f64 re im, .int .i64 d] w fun e w' => e = .returned (.bool b) ∧ w = w' := by
  by_cases hd : 0 ≤ d ∧ d ≤ 16
  · obtain ⟨k, rfl⟩ := Int.eq_ofNat_of_zero_le hd.1
    have hk : k ≤ 16 := by omega
    rcases o with _ | ⟨l, p⟩
    · obtain rfl : false = b := hb
      refine right_no re im k w ho.1 ho.2.1 (fun l p hs => ho.2.2 l p ⟨hs.re, hs.im, by have := hs.lev; omega, ?_⟩) hk
      have h1 := hs.pl
      have h2 : 2 ^ (k - l) ≤ 2 ^ (16 - l) := Nat.pow_le_pow_right (by decide) (by omega)
      omega
    · have hs : Spot re im 16 l p := ho
      have b1 := hs.lev
      have b2 := hs.small (by decide)
      have key : rightF (k : Int) (some (l, p)) = decide (l ≤ k ∧ p < 2 ^ (k - l)) := by
        simp only [rightF]
        apply decide_eq_decide.2
        constructor
        · rintro ⟨-, -, h1, h2⟩
          have e : ((k : Int) - l).toNat = k - l := by omega
          rw [e] at h2
          exact ⟨by omega, by exact_mod_cast h2⟩
        · rintro ⟨h1, h2⟩
          have e : ((k : Int) - l).toNat = k - l := by omega
          rw [e]
          exact ⟨by omega, by omega, by omega, by exact_mod_cast h2⟩
      rw [key] at hb
      by_cases h : l ≤ k ∧ p < 2 ^ (k - l)
      · rw [decide_eq_true h] at hb
        subst hb
        exact right_yes re im k l p w ⟨hs.re, hs.im, h.1, h.2⟩ hk
      · rw [decide_eq_false h] at hb
        subst hb
        refine right_no re im k w hs.re.lt hs.im.lt (fun l' p' hs' => h ?_) hk
        have c1 : l' < 2 ^ 52 := by have := hs'.lev; omega
        have c2 : p' < 2 ^ 52 := by have := hs'.small hk; omega
        obtain rfl := nz_one hs.re hs'.re (by omega) c1
        obtain rfl := nz_one hs.im hs'.im (by omega) c2
        exact ⟨hs'.lev, hs'.pl⟩
  · have : b = false := by
      rw [← hb]
      rcases o with _ | ⟨l, p⟩
      · rfl
      · simp only [rightF]; exact decide_eq_false fun h => hd ⟨h.1, h.2.1⟩
    subst this
    exact right_deep re im d w hd

set_option maxHeartbeats 1000000 in
theorem number_yes (l p x y : Nat) (w : World) (hw : Ws (l, p) x y) :
    Calls Tryz.prog 52 #[.agg #[.int .i64 (l : Int), .int .i64 (p : Int), .bool true]] w fun e w' => e = .returned (.complex .f64 x y) ∧ Below w.heap.size w w' := by
  have n1 := nearest_is l
  have n2 := nearest_is p
  rw [show fl l = x from hw.x] at n1
  rw [show fl p = y from hw.y] at n2
  have HB := Lib.hid ((Below.refl w.heap.size w).alloc (Nat.le_refl _) (.cells #[.int .i64 (l : Int), .int .i64 (p : Int), .bool true] 72))
  clear hw
  go_enter Tryz.func52, Tryz.ntmps52
  go_wp2
  go_ret
  exact ⟨rfl, HB.out⟩
set_option maxHeartbeats 1000000 in
theorem number_no (w : World) :
    Calls Tryz.prog 52 #[.agg #[.int .i64 0, .int .i64 0, .bool false]] w fun e w' => e = .returned (.complex .f64 0 0) ∧ Below w.heap.size w w' := by
  have HB := Lib.hid ((Below.refl w.heap.size w).alloc (Nat.le_refl _) (.cells #[.int .i64 0, .int .i64 0, .bool false] 72))
  go_enter Tryz.func52, Tryz.ntmps52
  go_wp2
  go_ret
  exact ⟨rfl, HB.out⟩
/-- a value is a spot of the document's, whose number is x, y -/
structure Nm (v : Value) (x y : Nat) : Prop where
  is : (∃ l p : Nat, v = .agg #[.int .i64 (l : Int), .int .i64 (p : Int), .bool true] ∧ Ws (l, p) x y) ∨ (v = .agg #[.int .i64 0, .int .i64 0, .bool false] ∧ x = 0 ∧ y = 0)
theorem number_is {v : Value} {x y : Nat} (h : Nm v x y) (w : World) :
    Calls Tryz.prog 52 #[v] w fun e w' => e = .returned (.complex .f64 x y) ∧ Below w.heap.size w w' := by
  rcases h.is with ⟨l, p, rfl, hw⟩ | ⟨rfl, rfl, rfl⟩
  · exact number_yes l p x y w hw
  · exact number_no w

/-- what up tells -/
def upV : Option (Nat × Nat) → Value
  | some (l, p) => if l = 16 then .agg #[.int .i64 0, .int .i64 0, .bool false] else .agg #[.int .i64 ((l + 1 : Nat) : Int), .int .i64 ((p / 2 : Nat) : Int), .bool true]
  | none => .agg #[.int .i64 0, .int .i64 0, .bool false]
theorem upV_nm (o : Option (Nat × Nat)) : Nm (upV o) (fl (upF o).1) (fl (upF o).2) := by
  rcases o with _ | ⟨l, p⟩
  · exact ⟨.inr ⟨rfl, fl0, fl0⟩⟩
  · by_cases h : l = 16
    · simp only [upV, upF, if_pos h]; exact ⟨.inr ⟨rfl, fl0, fl0⟩⟩
    · simp only [upV, upF, if_neg h]; exact ⟨.inl ⟨_, _, rfl, rfl, rfl⟩⟩
theorem last_two (w : World) (A B : Array Value) : ((w.alloc (.cells A 72)).alloc (.cells B 72)).heap[w.heap.size + 1]? = some (.cells B 72 (0, 0)) := by
  have h := heap_alloc_last (w.alloc (.cells A 72)) (.cells B 72)
  rwa [show (w.alloc (.cells A 72)).heap.size = w.heap.size + 1 by simp] at h
theorem below_two (w : World) (A B : Array Value) : Below w.heap.size w ((w.alloc (.cells A 72)).alloc (.cells B 72)) :=
  ((Below.refl w.heap.size w).alloc (Nat.le_refl _) _).alloc (by simp) _
set_option maxHeartbeats 1000000 in
theorem rup_some (l p : Nat) (w : World) (hl : l ≤ 16) (hp : p < 65536) :
    Calls Tryz.prog 51 #[.agg #[.int .i64 (l : Int), .int .i64 (p : Int), .bool true]] w fun e w' => e = .returned (upV (some (l, p))) ∧ Below w.heap.size w w' := by
  by_cases h : l = 16
  · subst h
    go_enter Tryz.func51, Tryz.ntmps51
    go_wp2
    refine bodyPost_ret (v := .agg (cs3 0 0 false)) (results_cell_row (p := 2) (ty := 72) (by kernel_rfl) _ _ (w.heap.size + 1) 72 (cs3 0 0 false) (0, 0) _ rfl (last_two w _ _) Tryz.underlying72 rfl (st_sized _ _ _)) rfl ⟨rfl, below_two w _ _⟩
  · have hv : upV (some (l, p)) = .agg (cs3 ((l + 1 : Nat) : Int) ((p / 2 : Nat) : Int) true) := by simp only [upV, if_neg h]; rfl
    have y0 : ((l : Int) == 16) = false := by rw [beq_eq_false_iff_ne]; omega
    obtain ⟨l1, hl1⟩ : ∃ l1, l + 1 = l1 := ⟨_, rfl⟩
    obtain ⟨p1, hp1⟩ : ∃ p1, p / 2 = p1 := ⟨_, rfl⟩
    have x1 : (l : Int) + 1 = (l1 : Int) := by omega
    have x2 : (p : Int).tdiv 2 = (p1 : Int) := by rw [← hp1]; rfl
    have b1 : (l1 : Int) ≤ 17 := by omega
    have b2 : (p1 : Int) ≤ 65536 := by omega
    rw [hl1, hp1] at hv
    rw [hv]
    clear hv hl1 hp1 h hl hp
    go_enter Tryz.func51, Tryz.ntmps51
    go_wp2
    refine bodyPost_ret (v := .agg (cs3 (l1 : Int) (p1 : Int) true)) (results_cell_row (p := 2) (ty := 72) (by kernel_rfl) _ _ (w.heap.size + 1) 72 (cs3 (l1 : Int) (p1 : Int) true) (0, 0) _ rfl (last_two w _ _) Tryz.underlying72 rfl (st_sized _ _ _)) rfl ⟨rfl, below_two w _ _⟩

set_option maxHeartbeats 1000000 in
theorem rup_none (w : World) :
    Calls Tryz.prog 51 #[.agg #[.int .i64 0, .int .i64 0, .bool false]] w fun e w' => e = .returned (upV none) ∧ Below w.heap.size w w' := by
  go_enter Tryz.func51, Tryz.ntmps51
  go_wp2
  refine bodyPost_ret (v := .agg (cs3 0 0 false)) (results_cell_row (p := 2) (ty := 72) (by kernel_rfl) _ _ (w.heap.size + 1) 72 (cs3 0 0 false) (0, 0) _ rfl (last_two w _ _) Tryz.underlying72 rfl (st_sized _ _ _)) rfl ⟨rfl, below_two w _ _⟩

theorem rup_is (re im : Nat) (o : Option (Nat × Nat)) (w : World) (ho : Is re im o) :
    Calls Tryz.prog 51 #[ofF o] w fun e w' => e = .returned (upV o) ∧ Below w.heap.size w w' := by
  rcases o with _ | ⟨l, p⟩
  · exact rup_none w
  · exact rup_some l p w (Spot.lev ho) (Spot.small ho (by decide))

end Go.Proofs.YtakglldffpnlaaaGreatDoor.Sp

namespace Go.Proofs.YtakglldffpnlaaaGreatDoor.Sp
set_option linter.all false
set_option maxRecDepth 100000
open Go.RowKit Fl

theorem one_new (w : World) (a b : Int) (c : Bool) : ∃ W, w.alloc (.cells #[.int .i64 a, .int .i64 b, .bool c] 72) = W ∧ St w.heap.size a b c W ∧ Hid (Below w.heap.size w W) :=
  ⟨_, rfl, st_new w a b c, Lib.hid ((Below.refl w.heap.size w).alloc (Nat.le_refl _) _)⟩
theorem wrap_small {n : Int} (h1 : -9223372036854775808 ≤ n) (h2 : n ≤ 9223372036854775807) : IntKind.i64.wrap n = n := by rw [IntKind.wrap_i64]; omega

set_option maxHeartbeats 2000000 in
theorem rindex_is (re im : Nat) (o : Option (Nat × Nat)) (n : Int) (w : World) (ho : Is re im o) (hn : indexF o = n) :
    Calls Tryz.prog 23 #[.complex .f64 re im] w fun e w' => e = .returned (.int .i64 n) ∧ Below w.heap.size w w' := by
  have C1 := Lib.hid (of_is re im o w ho)
  rcases o with _ | ⟨l, p⟩
  · obtain rfl : -1 = n := hn
    clear ho
    change Hid (Calls _ _ _ _ fun e w' => e = .returned (.agg #[.int .i64 0, .int .i64 0, .bool false]) ∧ _) at C1
    go_enter Tryz.func23, Tryz.ntmps23
    go_wp2_with fail
    refine C1.out.mono ?_
    rintro e' w1 ⟨rfl, hb1⟩
    have HB1 := Lib.hid hb1
    clear hb1
    have HB2 := Lib.hid (HB1.out.alloc HB1.out.size (.cells #[.int .i64 0, .int .i64 0, .bool false] 72))
    go_wp2
    go_ret
    exact ⟨rfl, HB2.out⟩
  · have hs : Spot re im 16 l p := ho
    have b1 := hs.lev
    have b2 := hs.small (by decide)
    have b3 := number_lt hs.pl hs.lev
    obtain ⟨k, hk⟩ : ∃ k, 2 ^ l = k := ⟨_, rfl⟩
    obtain ⟨N, hN⟩ : ∃ N, (2 * p + 1) * 2 ^ l = N := ⟨_, rfl⟩
    have hN2 : k * (2 * p + 1) = N := by rw [← hk, ← hN, Nat.mul_comm]
    have b4 : 1 ≤ N := by rw [← hN]; exact Nat.mul_pos (by omega) (Nat.two_pow_pos l)
    rw [hN] at b3
    have hk16 : k ≤ 65536 := by rw [← hk]; exact pow_le l b1
    obtain ⟨p2, hp2⟩ : ∃ p2, 2 * p = p2 := ⟨_, rfl⟩
    obtain ⟨p3, hp3⟩ : ∃ p3, p2 + 1 = p3 := ⟨_, rfl⟩
    obtain ⟨R, hR⟩ : ∃ R, R + 1 = N := ⟨N - 1, by omega⟩
    rw [hp2, hp3] at hN2
    have x1 : (2 : Int) ^ l = (k : Int) := by rw [← hk]; simp
    have x2 : 2 * (p : Int) = (p2 : Int) := by omega
    have x3 : (p2 : Int) + 1 = (p3 : Int) := by omega
    have x4 : (k : Int) * (p3 : Int) = (N : Int) := by rw [← hN2]; simp
    have x5 : (N : Int) - 1 = (R : Int) := by omega
    have y1 : IntKind.i64.wrap (k : Int) = (k : Int) := wrap_small (by omega) (by omega)
    have y2 : IntKind.i64.wrap (p2 : Int) = (p2 : Int) := wrap_small (by omega) (by omega)
    have y3 : IntKind.i64.wrap (p3 : Int) = (p3 : Int) := wrap_small (by omega) (by omega)
    have y4 : IntKind.i64.wrap (N : Int) = (N : Int) := wrap_small (by omega) (by omega)
    have y5 : IntKind.i64.wrap (R : Int) = (R : Int) := wrap_small (by omega) (by omega)
    have e : n = (R : Int) := by rw [← hn]; simp only [indexF]; rw [← x5, ← hN]; simp
    subst e
    change Hid (Calls _ _ _ _ fun e w' => e = .returned (.agg #[.int .i64 (l : Int), .int .i64 (p : Int), .bool true]) ∧ _) at C1
    clear ho hs hn hk hN hN2 hp2 hp3 hR b3 b4 hk16 b2
    go_enter Tryz.func23, Tryz.ntmps23
    go_wp2_with fail
    refine C1.out.mono ?_
    rintro e' w1 ⟨rfl, hb1⟩
    have HB1 := Lib.hid hb1
    clear hb1
    go_wp2
    obtain ⟨W, hW, S1, HBW⟩ := one_new w1 l p true
    rw [hW]
    clear hW
    have q0 := S1.drew.c0; have q1 := S1.drew.c1; have q2 := S1.drew.c2
    have HB2 := Lib.hid (HB1.out.trans (HBW.out.drew.mono HB1.out.size))
    clear S1 HBW HB1
    refine wp_region_still_lit rfl (by kernel_rfl) ?_
    repeat still_step
    refine wpStill_nil ?_
    change Exit.then _ _ Exit.normal _ (World.drew _)
    go_wp2
    go_ret
    exact ⟨rfl, HB2.out⟩

theorem ofF_is (o : Option (Nat × Nat)) : ∃ (a b : Int) (c : Bool), ofF o = .agg #[.int .i64 a, .int .i64 b, .bool c] := by
  rcases o with _ | ⟨l, p⟩
  · exact ⟨_, _, _, rfl⟩
  · exact ⟨_, _, _, rfl⟩
end Go.Proofs.YtakglldffpnlaaaGreatDoor.Sp

namespace Go.Proofs.YtakglldffpnlaaaGreatDoor.Sp
set_option linter.all false
set_option maxRecDepth 100000
open Go.RowKit Fl

set_option maxHeartbeats 2000000 in
theorem rover_is (re im : Nat) (i : Int) (o : Option (Nat × Nat)) (b : Bool) (w : World) (ho : Is re im o) (hb : overF i o = b) :
    Calls Tryz.prog 76 #[.complex .f64 re im, .int .i64 i] w fun e w' => e = .returned (.bool b) ∧ Below w.heap.size w w' := by
  have C1 := Lib.hid (of_is re im o w ho)
  rcases o with _ | ⟨l, p⟩
  · obtain rfl : false = b := hb
    change Hid (Calls _ _ _ _ fun e w' => e = .returned (.agg #[.int .i64 0, .int .i64 0, .bool false]) ∧ _) at C1
    clear ho
    go_enter Tryz.func76, Tryz.ntmps76
    go_wp2_with fail
    refine C1.out.mono ?_
    rintro e' w1 ⟨rfl, hb1⟩
    have HB1 := Lib.hid hb1
    clear hb1
    go_wp2
    obtain ⟨W, hW, S1, HBW⟩ := one_new w1 0 0 false
    rw [hW]
    clear hW
    have q0 := S1.drew.c0; have q1 := S1.drew.c1; have q2 := S1.drew.c2
    have HB2 := Lib.hid (HB1.out.trans (HBW.out.drew.mono HB1.out.size))
    clear S1 HBW HB1
    refine wp_region_still_lit rfl (by kernel_rfl) ?_
    iterate 3 still_step
    iterate 2 (unfold wpStill; rw [if_neg (Bool.eq_false_iff.1 (by kernel_rfl))]; simp only [Act.put, List.setIfInBounds_toArray, List.set_cons_zero, List.set_cons_succ])
    iterate 2 still_step
    iterate 2 (unfold wpStill; rw [if_neg (Bool.eq_false_iff.1 (by kernel_rfl))]; simp only [Act.put, List.setIfInBounds_toArray, List.set_cons_zero, List.set_cons_succ])
    iterate 2 still_step
    iterate 7 (unfold wpStill; rw [if_neg (Bool.eq_false_iff.1 (by kernel_rfl))]; simp only [Act.put, List.setIfInBounds_toArray, List.set_cons_zero, List.set_cons_succ])
    iterate 2 still_step
    refine wpStill_nil ?_
    change Exit.then _ _ Exit.normal _ (World.drew _)
    go_wp2
    go_ret
    exact ⟨rfl, HB2.out⟩
  · change Hid (Calls _ _ _ _ fun e w' => e = .returned (.agg #[.int .i64 (l : Int), .int .i64 (p : Int), .bool true]) ∧ _) at C1
    have b1 := Spot.lev ho
    have b2 := Spot.small ho (by decide)
    clear ho
    by_cases h0 : 0 ≤ i
    · have y0 : decide (0 ≤ i) = true := decide_eq_true h0
      obtain ⟨k, rfl⟩ := Int.eq_ofNat_of_zero_le h0
      by_cases h1 : k < 65536
      · have y1 : decide ((k : Int) < 65536) = true := decide_eq_true (by omega)
        obtain ⟨q, hq⟩ : ∃ q, k / 2 ^ l = q := ⟨_, rfl⟩
        have x1 : (k : Int) / 2 ^ l = (q : Int) := by rw [← hq]; simp
        have x2 : ((q : Int) == (p : Int)) = b := by
          rw [← hb]
          simp only [overF, x1]
          rw [Bool.eq_iff_iff]
          simp only [beq_iff_eq, decide_eq_true_eq]
          exact ⟨fun e => ⟨h0, by omega, e⟩, fun e => e.2.2⟩
        clear hb hq
        go_enter Tryz.func76, Tryz.ntmps76
        go_wp2_with fail
        refine C1.out.mono ?_
        rintro e' w1 ⟨rfl, hb1⟩
        have HB1 := Lib.hid hb1
        clear hb1
        go_wp2
        obtain ⟨W, hW, S1, HBW⟩ := one_new w1 l p true
        rw [hW]
        clear hW
        have q0 := S1.drew.c0; have q1 := S1.drew.c1; have q2 := S1.drew.c2
        have HB2 := Lib.hid (HB1.out.trans (HBW.out.drew.mono HB1.out.size))
        clear S1 HBW HB1
        refine wp_region_still_lit rfl (by kernel_rfl) ?_
        repeat still_step
        refine wpStill_nil ?_
        change Exit.then _ _ Exit.normal _ (World.drew _)
        go_wp2
        go_ret
        exact ⟨rfl, HB2.out⟩
      · have y1 : decide ((k : Int) < 65536) = false := decide_eq_false (by omega)
        obtain rfl : false = b := by rw [← hb]; simp only [overF]; exact (decide_eq_false fun e => h1 (by omega)).symm
        clear hb
        go_enter Tryz.func76, Tryz.ntmps76
        go_wp2_with fail
        refine C1.out.mono ?_
        rintro e' w1 ⟨rfl, hb1⟩
        have HB1 := Lib.hid hb1
        clear hb1
        go_wp2
        obtain ⟨W, hW, S1, HBW⟩ := one_new w1 l p true
        rw [hW]
        clear hW
        have q0 := S1.drew.c0; have q1 := S1.drew.c1; have q2 := S1.drew.c2
        have HB2 := Lib.hid (HB1.out.trans (HBW.out.drew.mono HB1.out.size))
        clear S1 HBW HB1
        refine wp_region_still_lit rfl (by kernel_rfl) ?_
        iterate 11 still_step
        iterate 7 (unfold wpStill; rw [if_neg (Bool.eq_false_iff.1 (by kernel_rfl))]; simp only [Act.put, List.setIfInBounds_toArray, List.set_cons_zero, List.set_cons_succ])
        iterate 2 still_step
        refine wpStill_nil ?_
        change Exit.then _ _ Exit.normal _ (World.drew _)
        go_wp2
        go_ret
        exact ⟨rfl, HB2.out⟩
    · have y0 : decide (0 ≤ i) = false := decide_eq_false h0
      obtain rfl : false = b := by rw [← hb]; simp only [overF]; exact (decide_eq_false fun e => h0 e.1).symm
      clear hb
      go_enter Tryz.func76, Tryz.ntmps76
      go_wp2_with fail
      refine C1.out.mono ?_
      rintro e' w1 ⟨rfl, hb1⟩
      have HB1 := Lib.hid hb1
      clear hb1
      go_wp2
      obtain ⟨W, hW, S1, HBW⟩ := one_new w1 l p true
      rw [hW]
      clear hW
      have q0 := S1.drew.c0; have q1 := S1.drew.c1; have q2 := S1.drew.c2
      have HB2 := Lib.hid (HB1.out.trans (HBW.out.drew.mono HB1.out.size))
      clear S1 HBW HB1
      refine wp_region_still_lit rfl (by kernel_rfl) ?_
      iterate 7 still_step
      iterate 2 (unfold wpStill; rw [if_neg (Bool.eq_false_iff.1 (by kernel_rfl))]; simp only [Act.put, List.setIfInBounds_toArray, List.set_cons_zero, List.set_cons_succ])
      iterate 2 still_step
      iterate 7 (unfold wpStill; rw [if_neg (Bool.eq_false_iff.1 (by kernel_rfl))]; simp only [Act.put, List.setIfInBounds_toArray, List.set_cons_zero, List.set_cons_succ])
      iterate 2 still_step
      refine wpStill_nil ?_
      change Exit.then _ _ Exit.normal _ (World.drew _)
      go_wp2
      go_ret
      exact ⟨rfl, HB2.out⟩

end Go.Proofs.YtakglldffpnlaaaGreatDoor.Sp

namespace Go.Proofs.YtakglldffpnlaaaGreatDoor.Sp
set_option linter.all false
set_option maxRecDepth 100000
open Go.RowKit Fl

structure IdxC (re im : Nat) (n : Int) : Prop where
  is : ∃ o, Is re im o ∧ indexF o = n
structure UpC (re im x y : Nat) : Prop where
  is : ∃ o, Is re im o ∧ Ws (upF o) x y
structure OtC (re im x y : Nat) : Prop where
  is : ∃ o, Is re im o ∧ Ws (otherF o) x y
structure DnC (re im : Nat) (right : Bool) (x y : Nat) : Prop where
  is : ∃ o, Is re im o ∧ Ws (downF right o) x y
structure OvC (re im : Nat) (i : Int) (b : Bool) : Prop where
  is : ∃ o, Is re im o ∧ overF i o = b
structure RtC (re im : Nat) (d : Int) (b : Bool) : Prop where
  is : ∃ o, Is re im o ∧ rightF d o = b
structure LfC (i : Int) (x y : Nat) : Prop where
  is : Ws (leafF i) x y
structure MtC (a b : Int) (x y : Nat) : Prop where
  is : ∃ m n : Nat, a = m ∧ b = n ∧ m < 65536 ∧ n < 65536 ∧ Ws (meetF m n) x y
structure AtC (i : Int) (x y : Nat) : Prop where
  is : ∃ k l p : Nat, i = k ∧ 2 ^ l * (2 * p + 1) = k + 1 ∧ l ≤ 16 ∧ p < 2 ^ (16 - l) ∧ Ws (l, p) x y
theorem index_c {re im : Nat} {n : Int} (h : IdxC re im n) (w : World) : Calls Tryz.prog 62 #[.complex .f64 re im] w fun e w' => e = .returned (.int .i64 n) ∧ w = w' := by
  obtain ⟨o, h1, h2⟩ := h.is; exact index_is re im o n w h1 h2
theorem up_c {re im x y : Nat} (h : UpC re im x y) (w : World) : Calls Tryz.prog 89 #[.complex .f64 re im] w fun e w' => e = .returned (.complex .f64 x y) ∧ w = w' := by
  obtain ⟨o, h1, h2⟩ := h.is; exact up_is re im x y o w h1 h2
theorem down_c {re im x y : Nat} {right : Bool} (h : DnC re im right x y) (w : World) : Calls Tryz.prog 108 #[.complex .f64 re im, .bool right] w fun e w' => e = .returned (.complex .f64 x y) ∧ w = w' := by
  obtain ⟨o, h1, h2⟩ := h.is; exact down_is re im x y right o w h1 h2
theorem over_c {re im : Nat} {i : Int} {b : Bool} (h : OvC re im i b) (w : World) : Calls Tryz.prog 98 #[.complex .f64 re im, .int .i64 i] w fun e w' => e = .returned (.bool b) ∧ w = w' := by
  obtain ⟨o, h1, h2⟩ := h.is; exact over_is re im i o b w h1 h2
theorem right_c {re im : Nat} {d : Int} {b : Bool} (h : RtC re im d b) (w : World) : Calls Tryz.prog 78 #[.complex .f64 re im, .int .i64 d] w fun e w' => e = .returned (.bool b) ∧ w = w' := by
  obtain ⟨o, h1, h2⟩ := h.is; exact right_is re im d o b w h1 h2
theorem leaf_c {i : Int} {x y : Nat} (h : LfC i x y) (w : World) : Calls Tryz.prog 88 #[.int .i64 i] w fun e w' => e = .returned (.complex .f64 x y) ∧ w = w' := leaf_is i x y w h.is
theorem at_c {i : Int} {x y : Nat} (h : AtC i x y) (w : World) (hT : Tab w) : Calls Tryz.prog 73 #[.int .i64 i] w fun e w' => e = .returned (.complex .f64 x y) ∧ w = w' := by
  obtain ⟨k, l, p, rfl, h1, h2, h3, h4⟩ := h.is; exact at_is k l p x y w hT h1 h2 h3 h4
theorem rindex_c {re im : Nat} {n : Int} (h : IdxC re im n) (w : World) : Calls Tryz.prog 23 #[.complex .f64 re im] w fun e w' => e = .returned (.int .i64 n) ∧ Below w.heap.size w w' := by
  obtain ⟨o, h1, h2⟩ := h.is; exact rindex_is re im o n w h1 h2
theorem rover_c {re im : Nat} {i : Int} {b : Bool} (h : OvC re im i b) (w : World) : Calls Tryz.prog 76 #[.complex .f64 re im, .int .i64 i] w fun e w' => e = .returned (.bool b) ∧ Below w.heap.size w w' := by
  obtain ⟨o, h1, h2⟩ := h.is; exact rover_is re im i o b w h1 h2
/-- a word stands to itself as alike -/
theorem alike {x a y b : Nat} (hx : fl a = x) (hy : fl b = y) (ha : a < 2 ^ 52) (hb : b < 2 ^ 52) : FloatKind.f64.format.order x y = some (compare a b) := by
  subst hx hy
  exact order_nz (nz_fl a) (nz_fl b) (by omega) (by omega)
theorem same {x a : Nat} (hx : fl a = x) (ha : a < 2 ^ 52) : FloatKind.f64.format.order x x = some .eq := by
  rw [alike hx hx ha ha, Nat.compare_eq_eq.2 rfl]
theorem fl3 : fl 3 = 4613937818241073152 := by rw [fl_word 3 (by decide)]; decide

end Go.Proofs.YtakglldffpnlaaaGreatDoor.Sp
