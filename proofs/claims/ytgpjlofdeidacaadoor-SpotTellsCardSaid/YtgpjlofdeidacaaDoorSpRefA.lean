/- Walks: the document's own: Of. -/
import Derived.Test.YtgpjlofdeidacaaDoorSpWalkH
import Derived.Below
import Derived.StillTail
import Derived.StillTailTactics
import Derived.Deep.RegionHeld3
import Derived.Laws.CopyOwn
import Derived.Deep.WholeRow
namespace Go.Proofs.YtgpjlofdeidacaaDoor.Sp
set_option linter.all false
open Go.RowKit Fl

theorem fl65536 : fl 65536 = 4679240012837945344 := by rw [fl_word 65536 (by decide)]; decide
theorem Nz.geb {x n : Nat} (hx : Nz x n) (h : n < 2 ^ 52) : (FloatKind.f64.format.order x 0 == some .gt || FloatKind.f64.format.order x 0 == some .eq) = true := by
  rcases Fl.Nz.ge hx h with e | e <;> (rw [show FloatKind.f64.format = Ieee.double from rfl, e]; rfl)
theorem Nz.leb {x n m : Nat} (hx : Nz x n) (hn : n ≤ m) (h : m < 2 ^ 52) : (FloatKind.f64.format.order x (fl m) == some .lt || FloatKind.f64.format.order x (fl m) == some .eq) = true := by
  rcases Fl.Nz.le hx hn h with e | e <;> (rw [show FloatKind.f64.format = Ieee.double from rfl, e]; rfl)
theorem Nz.ltb {x n m : Nat} (hx : Nz x n) (hn : n < m) (h : m < 2 ^ 52) : (FloatKind.f64.format.order x (fl m) == some .lt) = true := by
  rw [show FloatKind.f64.format = Ieee.double from rfl, order_nz hx (nz_fl m) (by omega) (by omega), Nat.compare_eq_lt.2 hn]; rfl

/-- the cells of a spot of the document's -/
def cs3 (a b : Int) (c : Bool) : Array Value := #[.int .i64 a, .int .i64 b, .bool c]
/-- a spot of the document's lies in block g -/
def St (g : Nat) (a b : Int) (c : Bool) (w : World) : Prop := w.heap[g]? = some (.cells (cs3 a b c) 45 (0, 0))
theorem St.c0 {g : Nat} {a b : Int} {c : Bool} {w : World} (h : St g a b c w) : w.cell? ⟨g, 0, none⟩ = some (.int .i64 a) := by
  unfold St at h; simp only [World.cell?, h]; rfl
theorem St.c1 {g : Nat} {a b : Int} {c : Bool} {w : World} (h : St g a b c w) : w.cell? ⟨g, 1, none⟩ = some (.int .i64 b) := by
  unfold St at h; simp only [World.cell?, h]; rfl
theorem St.c2 {g : Nat} {a b : Int} {c : Bool} {w : World} (h : St g a b c w) : w.cell? ⟨g, 2, none⟩ = some (.bool c) := by
  unfold St at h; simp only [World.cell?, h]; rfl
theorem St.lt {g : Nat} {a b : Int} {c : Bool} {w : World} (h : St g a b c w) : g < w.heap.size := (Array.getElem?_eq_some_iff.1 h).1
theorem St.below {g : Nat} {a b : Int} {c : Bool} {w w' : World} (h : St g a b c w) (hb : Below w.heap.size w w') : St g a b c w' := (hb.block g h.lt).trans h
theorem St.drew {g : Nat} {a b : Int} {c : Bool} {w : World} (h : St g a b c w) : St g a b c w.drew := h
theorem st_sized (a b : Int) (c : Bool) : (Tryd.prog.info? 45).map (·.size) = some (cs3 a b c).size := by
  rw [show (Tryd.prog.info? 45).map (·.size) = some 3 by kernel_rfl]; rfl
theorem st_all (a b : Int) (c : Bool) : (cs3 a b c).all (·.oneCell') = true := by simp [cs3, Value.oneCell']
theorem st_new (w : World) (a b : Int) (c : Bool) : St w.heap.size a b c (w.alloc (.cells #[.int .i64 a, .int .i64 b, .bool c] 45)) := by
  exact heap_alloc_last w _
theorem two_new (w : World) (a b : Int) : ∃ W, ((w.alloc (.cells #[.int .i64 0, .int .i64 0, .bool false] 45)).alloc (.cells #[.int .i64 a, .int .i64 b, .bool true] 45)) = W ∧ St w.heap.size 0 0 false W ∧ St (w.heap.size + 1) a b true W ∧ Hid (Below w.heap.size w W) := by
  have S1 := st_new w 0 0 false
  have S2 := st_new (w.alloc (.cells #[.int .i64 0, .int .i64 0, .bool false] 45)) a b true
  have HB := Lib.hid (((Below.refl w.heap.size w).alloc (Nat.le_refl _) (.cells #[.int .i64 0, .int .i64 0, .bool false] 45)).alloc (by simp) (.cells #[.int .i64 a, .int .i64 b, .bool true] 45))
  have e1 : (w.alloc (.cells #[.int .i64 0, .int .i64 0, .bool false] 45)).heap.size = w.heap.size + 1 := by simp
  have hb2 : Below (w.heap.size + 1) (w.alloc (.cells #[.int .i64 0, .int .i64 0, .bool false] 45)) ((w.alloc (.cells #[.int .i64 0, .int .i64 0, .bool false] 45)).alloc (.cells #[.int .i64 a, .int .i64 b, .bool true] 45)) := by
    rw [← e1]; exact (Below.refl _ _).alloc (Nat.le_refl _) _
  have S1 := S1.below (by rw [e1]; exact hb2)
  rw [e1] at S2
  exact ⟨_, rfl, S1, S2, HB⟩
/-- the document's spot -/
def ofF : Option (Nat × Nat) → Value
  | some (l, p) => .agg #[.int .i64 (l : Int), .int .i64 (p : Int), .bool true]
  | none => .agg #[.int .i64 0, .int .i64 0, .bool false]

set_option maxHeartbeats 1000000 in
theorem of_yes (re im l p : Nat) (w : World) (hs : Spot re im 16 l p) :
    Calls Tryd.prog 29 #[.complex .f64 re im] w fun e w' => e = .returned (.agg #[.int .i64 (l : Int), .int .i64 (p : Int), .bool true]) ∧ Below w.heap.size w w' := by
  have b1 := hs.lev
  have b2 := hs.small (by decide)
  have c1 := Nz.geb hs.re (by omega)
  have c2 := Nz.leb hs.re hs.lev (by decide)
  rw [fl16] at c2
  have c3 := Nz.geb hs.im (by omega)
  have c4 := Nz.ltb hs.im b2 (by decide)
  rw [fl65536] at c4
  have i1 := int_run hs.re (by omega)
  have i2 := int_run hs.im (by omega)
  have n1 := nearest_is l
  have n2 := nearest_is p
  have o1 : FloatKind.f64.format.order (fl l) re = some .eq := by rw [show FloatKind.f64.format = Ieee.double from rfl, order_nz (nz_fl l) hs.re (by omega) (by omega), Nat.compare_eq_eq.2 rfl]
  have o2 : FloatKind.f64.format.order (fl p) im = some .eq := by rw [show FloatKind.f64.format = Ieee.double from rfl, order_nz (nz_fl p) hs.im (by omega) (by omega), Nat.compare_eq_eq.2 rfl]
  obtain ⟨x, hx⟩ : ∃ x, fl l = x := ⟨_, rfl⟩
  obtain ⟨y, hy⟩ : ∃ y, fl p = y := ⟨_, rfl⟩
  rw [hx] at n1 o1
  rw [hy] at n2 o2
  obtain ⟨q, hq⟩ : ∃ q, q + l = 16 := ⟨16 - l, by omega⟩
  have x1 : 16 - (l : Int) = (q : Int) := by omega
  obtain ⟨n, hn⟩ : ∃ n, 2 ^ q = n := ⟨_, rfl⟩
  have hp := hs.pl
  rw [show 16 - l = q by omega, hn] at hp
  have x2 : (2 : Int) ^ q = (n : Int) := by rw [← hn]; simp
  have b3 : n ≤ 65536 := by rw [← hn]; exact pow_le q (by omega)
  have wq : IntKind.i64.wrap (q : Int) = (q : Int) := by rw [IntKind.wrap_i64]; omega
  have wn : IntKind.i64.wrap (n : Int) = (n : Int) := by rw [IntKind.wrap_i64]; omega
  clear hs hx hy hq hn
  go_enter Tryd.func29, Tryd.ntmps29
  go_wp2
  obtain ⟨W, hW, S1, S2, HB⟩ := two_new w l p
  rw [hW]
  clear hW
  have q0 := S2.drew.c0; have q1 := S2.drew.c1; have q2 := S2.drew.c2
  have H1 := Lib.hid S1.drew; have H2 := Lib.hid S2.drew; have HB2 := Lib.hid HB.out.drew
  clear S1 S2 HB
  refine wp_region_still_lit rfl (by kernel_rfl) ?_
  repeat still_step
  refine wpStill_nil ?_
  change Exit.then _ _ Exit.normal _ (World.drew _)
  go_wp2_with (refine wpList_store_row rfl 45 (.tmp 2) (.tmp 53) rfl w.heap.size (cs3 l p true) rfl rfl 45 (cs3 0 0 false) H1.out (st_sized _ _ _) rfl (st_all _ _ _) ?_)
  refine bodyPost_ret (v := .agg (cs3 l p true)) (results_cell_row (p := 2) (ty := 45) (by kernel_rfl) _ _ w.heap.size 45 (cs3 l p true) (0, 0) _ rfl (setRow_heap _ _ _ _ _ _ H1.out) Tryd.underlying45 rfl (st_sized _ _ _)) rfl ⟨rfl, below_setRow HB2.out (Nat.le_refl _) _⟩

set_option maxHeartbeats 2000000 in
theorem of_out (re im : Nat) (w : World) (a b c d : Bool) (h1 : (FloatKind.f64.format.order re 0 == some .gt || FloatKind.f64.format.order re 0 == some .eq) = a)
    (h2 : (FloatKind.f64.format.order re 4625196817309499392 == some .lt || FloatKind.f64.format.order re 4625196817309499392 == some .eq) = b)
    (h3 : (FloatKind.f64.format.order im 0 == some .gt || FloatKind.f64.format.order im 0 == some .eq) = c) (h4 : (FloatKind.f64.format.order im 4679240012837945344 == some .lt) = d) (h : (a && b && c && d) = false) :
    Calls Tryd.prog 29 #[.complex .f64 re im] w fun e w' => e = .returned (.agg #[.int .i64 0, .int .i64 0, .bool false]) ∧ Below w.heap.size w w' := by
  have H1 := Lib.hid (st_new w 0 0 false)
  have HB := Lib.hid ((Below.refl w.heap.size w).alloc (Nat.le_refl _) (.cells #[.int .i64 0, .int .i64 0, .bool false] 45))
  cases a <;> cases b <;> cases c <;> cases d <;> first | (exfalso; revert h; decide) | skip
  all_goals
    clear h
    go_enter Tryd.func29, Tryd.ntmps29
    go_wp2_with (refine wpList_store_row rfl 45 (.tmp 2) (.tmp 25) rfl w.heap.size (cs3 0 0 false) rfl rfl 45 (cs3 0 0 false) H1.out (st_sized _ _ _) rfl (st_all _ _ _) ?_)
    refine bodyPost_ret (v := .agg (cs3 0 0 false)) (results_cell_row (p := 2) (ty := 45) (by kernel_rfl) _ _ w.heap.size 45 (cs3 0 0 false) (0, 0) _ rfl (setRow_heap _ _ _ _ _ _ H1.out) Tryd.underlying45 rfl (st_sized _ _ _)) rfl ⟨rfl, below_setRow HB.out (Nat.le_refl _) _⟩

theorem int_run' {x n : Nat} (h : (Ieee.double.read x).toInt .zero = some ((n : Nat) : Int)) (hn : n < 2 ^ 52) (w : World) : (convert 22 3 (.float .f64 x)).run Tryd.prog w = .ok (.int .i64 (n : Int)) w := by
  refine run_convert_float_int w _ _ .f64 .i64 x n (by rw [Tryd.underlying22]; rfl) Tryd.underlying3 ?_
  have h : (FloatKind.f64.decode x).toInt .zero = some (n : Int) := h
  unfold floatToIntVal
  rw [h]
  exact if_pos ⟨by show (-9223372036854775808 : Int) ≤ n; omega, by show (n : Int) ≤ 9223372036854775807; omega⟩
set_option maxHeartbeats 2000000 in
theorem of_in (re im L P : Nat) (w : World) (c1 : (FloatKind.f64.format.order re 0 == some .gt || FloatKind.f64.format.order re 0 == some .eq) = true)
    (c2 : (FloatKind.f64.format.order re 4625196817309499392 == some .lt || FloatKind.f64.format.order re 4625196817309499392 == some .eq) = true)
    (c3 : (FloatKind.f64.format.order im 0 == some .gt || FloatKind.f64.format.order im 0 == some .eq) = true) (c4 : (FloatKind.f64.format.order im 4679240012837945344 == some .lt) = true)
    (i1 : ∀ w, (convert 22 3 (.float .f64 re)).run Tryd.prog w = .ok (.int .i64 (L : Int)) w) (i2 : ∀ w, (convert 22 3 (.float .f64 im)).run Tryd.prog w = .ok (.int .i64 (P : Int)) w)
    (b1 : L ≤ 16) (b2 : P ≤ 65536) (a b : Bool) (o1 : (FloatKind.f64.format.order (fl L) re != some .eq) = a) (o2 : (FloatKind.f64.format.order (fl P) im != some .eq) = b) (h : a = false → b = false → 2 ^ (16 - L) ≤ P) :
    Calls Tryd.prog 29 #[.complex .f64 re im] w fun e w' => e = .returned (.agg #[.int .i64 0, .int .i64 0, .bool false]) ∧ Below w.heap.size w w' := by
  have n1 := nearest_is L
  have n2 := nearest_is P
  obtain ⟨x, hx⟩ : ∃ x, fl L = x := ⟨_, rfl⟩
  obtain ⟨y, hy⟩ : ∃ y, fl P = y := ⟨_, rfl⟩
  rw [hx] at n1 o1
  rw [hy] at n2 o2
  obtain ⟨q, hq⟩ : ∃ q, q + L = 16 := ⟨16 - L, by omega⟩
  have x1 : 16 - (L : Int) = (q : Int) := by omega
  obtain ⟨n, hn⟩ : ∃ n, 2 ^ q = n := ⟨_, rfl⟩
  rw [show 16 - L = q by omega, hn] at h
  have x2 : (2 : Int) ^ q = (n : Int) := by rw [← hn]; simp
  have b3 : n ≤ 65536 := by rw [← hn]; exact pow_le q (by omega)
  have wq : IntKind.i64.wrap (q : Int) = (q : Int) := by rw [IntKind.wrap_i64]; omega
  have wn : IntKind.i64.wrap (n : Int) = (n : Int) := by rw [IntKind.wrap_i64]; omega
  clear hx hy hq hn
  cases a with
  | true =>
    clear h
    go_enter Tryd.func29, Tryd.ntmps29
    go_wp2
    obtain ⟨W, hW, S1, S2, HB⟩ := two_new w L P
    rw [hW]
    clear hW
    have q0 := S2.drew.c0; have q1 := S2.drew.c1; have q2 := S2.drew.c2
    have H1 := Lib.hid S1.drew; have HB2 := Lib.hid HB.out.drew
    clear S1 S2 HB
    refine wp_region_still_lit rfl (by kernel_rfl) ?_
    iterate 6 still_step
    iterate 5 (unfold wpStill; rw [if_neg (Bool.eq_false_iff.1 (by kernel_rfl))]; simp only [Act.put, List.setIfInBounds_toArray, List.set_cons_zero, List.set_cons_succ])
    iterate 2 still_step
    iterate 7 (unfold wpStill; rw [if_neg (Bool.eq_false_iff.1 (by kernel_rfl))]; simp only [Act.put, List.setIfInBounds_toArray, List.set_cons_zero, List.set_cons_succ])
    still_step
    refine wpStill_nil ?_
    change Exit.then _ _ Exit.normal _ (World.drew _)
    go_wp2_with (refine wpList_store_row rfl 45 (.tmp 2) (.tmp 52) rfl w.heap.size (cs3 0 0 false) rfl rfl 45 (cs3 0 0 false) H1.out (st_sized _ _ _) rfl (st_all _ _ _) ?_)
    refine bodyPost_ret (v := .agg (cs3 0 0 false)) (results_cell_row (p := 2) (ty := 45) (by kernel_rfl) _ _ w.heap.size 45 (cs3 0 0 false) (0, 0) _ rfl (setRow_heap _ _ _ _ _ _ H1.out) Tryd.underlying45 rfl (st_sized _ _ _)) rfl ⟨rfl, below_setRow HB2.out (Nat.le_refl _) _⟩
  | false =>
    cases b with
    | true =>
      clear h
      go_enter Tryd.func29, Tryd.ntmps29
      go_wp2
      obtain ⟨W, hW, S1, S2, HB⟩ := two_new w L P
      rw [hW]
      clear hW
      have q0 := S2.drew.c0; have q1 := S2.drew.c1; have q2 := S2.drew.c2
      have H1 := Lib.hid S1.drew; have HB2 := Lib.hid HB.out.drew
      clear S1 S2 HB
      refine wp_region_still_lit rfl (by kernel_rfl) ?_
      iterate 13 still_step
      iterate 7 (unfold wpStill; rw [if_neg (Bool.eq_false_iff.1 (by kernel_rfl))]; simp only [Act.put, List.setIfInBounds_toArray, List.set_cons_zero, List.set_cons_succ])
      still_step
      refine wpStill_nil ?_
      change Exit.then _ _ Exit.normal _ (World.drew _)
      go_wp2_with (refine wpList_store_row rfl 45 (.tmp 2) (.tmp 52) rfl w.heap.size (cs3 0 0 false) rfl rfl 45 (cs3 0 0 false) H1.out (st_sized _ _ _) rfl (st_all _ _ _) ?_)
      refine bodyPost_ret (v := .agg (cs3 0 0 false)) (results_cell_row (p := 2) (ty := 45) (by kernel_rfl) _ _ w.heap.size 45 (cs3 0 0 false) (0, 0) _ rfl (setRow_heap _ _ _ _ _ _ H1.out) Tryd.underlying45 rfl (st_sized _ _ _)) rfl ⟨rfl, below_setRow HB2.out (Nat.le_refl _) _⟩
    | false =>
      have h := h rfl rfl
      go_enter Tryd.func29, Tryd.ntmps29
      go_wp2
      obtain ⟨W, hW, S1, S2, HB⟩ := two_new w L P
      rw [hW]
      clear hW
      have q0 := S2.drew.c0; have q1 := S2.drew.c1; have q2 := S2.drew.c2
      have H1 := Lib.hid S1.drew; have HB2 := Lib.hid HB.out.drew
      clear S1 S2 HB
      refine wp_region_still_lit rfl (by kernel_rfl) ?_
      repeat still_step
      refine wpStill_nil ?_
      change Exit.then _ _ Exit.normal _ (World.drew _)
      go_wp2_with (refine wpList_store_row rfl 45 (.tmp 2) (.tmp 52) rfl w.heap.size (cs3 0 0 false) rfl rfl 45 (cs3 0 0 false) H1.out (st_sized _ _ _) rfl (st_all _ _ _) ?_)
      refine bodyPost_ret (v := .agg (cs3 0 0 false)) (results_cell_row (p := 2) (ty := 45) (by kernel_rfl) _ _ w.heap.size 45 (cs3 0 0 false) (0, 0) _ rfl (setRow_heap _ _ _ _ _ _ H1.out) Tryd.underlying45 rfl (st_sized _ _ _)) rfl ⟨rfl, below_setRow HB2.out (Nat.le_refl _) _⟩

/-- the document's Of: the spot, or none -/
theorem of_is (re im : Nat) (o : Option (Nat × Nat)) (w : World) (ho : Is re im o) :
    Calls Tryd.prog 29 #[.complex .f64 re im] w fun e w' => e = .returned (ofF o) ∧ Below w.heap.size w w' := by
  rcases o with _ | ⟨l, p⟩
  · obtain ⟨h1, h2, hno⟩ := ho
    by_cases hr : ((FloatKind.f64.format.order re 0 == some .gt || FloatKind.f64.format.order re 0 == some .eq) && (FloatKind.f64.format.order re 4625196817309499392 == some .lt || FloatKind.f64.format.order re 4625196817309499392 == some .eq) && (FloatKind.f64.format.order im 0 == some .gt || FloatKind.f64.format.order im 0 == some .eq) && (FloatKind.f64.format.order im 4679240012837945344 == some .lt)) = true
    · simp only [Bool.and_eq_true] at hr
      obtain ⟨⟨⟨c1, c2⟩, c3⟩, c4⟩ := hr
      have d1 : Ieee.double.order re 0 = some .gt ∨ Ieee.double.order re 0 = some .eq := by have h := c1; simp only [Bool.or_eq_true, beq_iff_eq] at h; exact h
      have d2 : Ieee.double.order re (fl 16) = some .lt ∨ Ieee.double.order re (fl 16) = some .eq := by rw [fl16]; have h := c2; simp only [Bool.or_eq_true, beq_iff_eq] at h; exact h
      have d3 : Ieee.double.order im 0 = some .gt ∨ Ieee.double.order im 0 = some .eq := by have h := c3; simp only [Bool.or_eq_true, beq_iff_eq] at h; exact h
      have d4 : Ieee.double.order im (fl 65536) = some .lt ∨ Ieee.double.order im (fl 65536) = some .eq := by rw [fl65536]; exact .inl (by have h := c4; simp only [beq_iff_eq] at h; exact h)
      obtain ⟨-, -, -, L, -, -, hL, tL, -, -, eL⟩ := whole re 16 h1 (by decide) d1 d2
      obtain ⟨-, -, -, P, -, -, hP, tP, -, -, eP⟩ := whole im 65536 h2 (by decide) d3 d4
      refine of_in re im L P w c1 c2 c3 c4 (int_run' tL (by omega)) (int_run' tP (by omega)) hL hP _ _ rfl rfl ?_
      intro e1 e2
      have g1 := eL (by have h := e1; simp only [bne_eq_false_iff_eq] at h; exact h)
      have g2 := eP (by have h := e2; simp only [bne_eq_false_iff_eq] at h; exact h)
      exact Nat.le_of_not_lt fun hlt => hno L P ⟨g1, g2, hL, hlt⟩
    · exact of_out re im w _ _ _ _ rfl rfl rfl rfl (by simpa only [Bool.not_eq_true] using hr)
  · exact of_yes re im l p w ho
end Go.Proofs.YtgpjlofdeidacaaDoor.Sp
