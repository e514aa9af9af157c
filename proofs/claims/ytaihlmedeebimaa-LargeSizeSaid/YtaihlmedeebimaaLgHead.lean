/- Walks: head. Written by tools/mk_lghead.py. -/
import Derived.Test.YtaihlmedeebimaaLgEq
namespace Go.Proofs.Ytaihlmedeebimaa.Lg
open Go.RowKit
set_option linter.all false

/-- blocks in which polynomials lie -/
def Sx (l : List (Nat × Array Value)) (w : World) : Prop := ∀ x ∈ l, w.heap[x.1]? = some (.cells x.2 23 (0, 0))
theorem sx_below {l : List (Nat × Array Value)} {w w' : World} (h : Sx l w) (hB : Below w.heap.size w w') : Sx l w' := fun x hx => by
  have := h x hx
  exact (hB.block x.1 (Array.getElem?_eq_some_iff.1 this).1).trans this
theorem sx_drew {l : List (Nat × Array Value)} {w : World} (h : Sx l w) : Sx l w.drew := h
theorem below_of_drew' {w w' : World} (h : Below w.heap.size w w') : Below w.heap.size w w' := h
theorem exec_load {o : Oper} {ev : Operand → Value} {w : World} (x : Operand) (ho : o.op = .load 23 x) (g : Nat) (cs : Array Value) (hx : ev x = .pointer (some ⟨g, 0, none⟩)) (hg : w.heap[g]? = some (.cells cs 23 (0, 0)))
    (hi : (Try.prog.info? 23).map (·.size) = some cs.size) : (execOp ev o).run Try.prog w = .ok (.value (.agg cs)) w := by
  unfold execOp
  simp only [ho, hx, Instr.loadAt, Instr.sureAddr, Sem.run_bind, Sem.run_pure, Result.andThen_ok, run_loadVar_row w g 23 23 cs (0, 0) _ hg Try.underlying23 rfl hi]
theorem exec_eq {o : Oper} {ev : Operand → Value} {w : World} (x y : Operand) (t : TypeId) (ho : o.op = .binOp .eql 23 x y t) (cs : Array Value) {p : Nat → Int} (h : IsP cs p) (hx : ev x = .agg cs) (hy : ev y = .agg cs) :
    (execOp ev o).run Try.prog w = .ok (.value (.bool true)) w := by
  unfold execOp
  simp only [ho, hx, hy, Sem.run_bind, Sem.run_pure, Result.andThen_ok, guard_poly, run_eq h]
theorem exec_neq {o : Oper} {ev : Operand → Value} {w : World} (x y : Operand) (t : TypeId) (ho : o.op = .binOp .neq 23 x y t) (cs : Array Value) {p : Nat → Int} (h : IsP cs p) (hx : ev x = .agg cs) (hy : ev y = .agg cs) :
    (execOp ev o).run Try.prog w = .ok (.value (.bool false)) w := by
  unfold execOp
  simp only [ho, hx, hy, Sem.run_bind, Sem.run_pure, Result.andThen_ok, guard_poly, run_neq h]
theorem sx_cell {l : List (Nat × Array Value)} {w : World} (h : Sx l w) (x : Nat × Array Value) (hx : x ∈ l) (i : Nat) {v : Value} (hv : x.2[i]? = some v) : w.cell? ⟨x.1, i, none⟩ = some v := by
  rw [cell_of_row w x.1 i _ _ _ (h x hx), hv]
theorem isp_set {cs : Array Value} {p : Nat → Int} (h : IsP cs p) (i : Nat) (v : Int) : IsP (cs.setIfInBounds i (.int .i64 v)) (fun j => if j = i then v else p j) := by
  refine ⟨by simp [h.1], fun j hj => ?_⟩
  rw [Array.getElem?_setIfInBounds]
  by_cases e : i = j
  · subst e
    rw [if_pos rfl, if_pos (by rw [h.1]; exact hj)]
    show _ = some (Value.int .i64 (if i = i then v else p i))
    rw [if_pos rfl]
  · rw [if_neg e, h.2 j hj]
    show _ = some (Value.int .i64 (if j = i then v else p j))
    rw [if_neg (fun x => e x.symm)]
theorem sizTo_ge (f : Nat → F) : ∀ k i, i < k → mag (f i) ≤ sizTo f k
  | k + 1, i, h => by
    have e : sizTo f (k + 1) = if mag (f k) > sizTo f k then mag (f k) else sizTo f k := rfl
    rw [e]
    by_cases hk : i = k
    · subst hk; split <;> omega
    · have := sizTo_ge f k i (by omega); split <;> omega
theorem sizTo_le (f : Nat → F) (m : Int) (hm : 0 ≤ m) : ∀ k, (∀ i, i < k → mag (f i) ≤ m) → sizTo f k ≤ m
  | 0, _ => hm
  | k + 1, h => by
    have e : sizTo f (k + 1) = if mag (f k) > sizTo f k then mag (f k) else sizTo f k := rfl
    rw [e]
    have h1 := h k (by omega); have h2 := sizTo_le f m hm k fun i hi => h i (by omega)
    split <;> omega
def p0 : Nat → Int := fun i => if i = 0 then 8380416 else 0
theorem p0_fits : Fits p0 := fun i _ => by unfold p0; split <;> omega
theorem p0_red (i : Nat) : nv (redp p0 i) = p0 i := by
  rw [redp_at, nv_red]; unfold p0; split <;> omega
theorem f0_at : nv (ntt (redp p0) 0) = 8380416 ∧ nv (ntt (redp p0) 255) = 8380416 ∧ cen (redp p0 0) = -1 := by decide +kernel
theorem p0_mag (i : Nat) : mag (redp p0 i) = if i = 0 then 1 else 0 := by
  unfold mag cen; rw [p0_red]; unfold p0
  by_cases h : i = 0
  · rw [if_pos h, if_pos h]; decide
  · rw [if_neg h, if_neg h]; decide
theorem p0_siz : siz (redp p0) = 1 := by
  have h1 := sizTo_ge (redp p0) 256 0 (by omega)
  have h2 := sizTo_le (redp p0) 1 (by omega) 256 fun i _ => by rw [p0_mag]; split <;> omega
  rw [p0_mag, if_pos rfl] at h1
  unfold siz; omega

set_option maxHeartbeats 4000000 in
set_option maxRecDepth 100000 in
theorem head_any (w : World) : Calls Try.prog 9 #[] w fun e w' => e = .returned (.bool true) ∧ Below w.heap.size w w' := by
  obtain ⟨k0, k1, k2⟩ := f0_at
  have K0 := Lib.hid k0; have K1 := Lib.hid k1; have K2 := Lib.hid k2; have K3 := Lib.hid p0_siz; clear k0 k1 k2
  obtain ⟨Z, hz, hZ⟩ := zero_poly
  have r1 := (row_of (heap_alloc_last w (.cells Z 23)) hZ)
  have c1 := r1.cell (i := 0) (by omega)
  unfold ints at c1
  have d1 := r1.frozen 0
  have hP : IsP (Z.setIfInBounds 0 (.int .i64 8380416)) p0 := isp_set hZ 0 8380416
  have HC := Lib.hid (heap_alloc_last w (.cells (Z.setIfInBounds 0 (.int .i64 8380416)) 23)); have HP := Lib.hid hP; have HZ := Lib.hid hZ
  have HB0 := Lib.hid ((Below.refl w.heap.size w).alloc (Nat.le_refl _) (.cells (Z.setIfInBounds 0 (.int .i64 8380416)) 23))
  clear hP hZ r1
  go_enter Try.func9, Try.ntmps9
  go_wp2_with (refine wpList_load_row rfl 23 (.tmp 1) rfl w.heap.size rfl 23 _ (0, 0) _ HC.out Try.underlying23 rfl (poly_sized HP.out) ?_)
  refine (ntt_any _ p0 _ HP.out p0_fits).mono ?_
  rintro e' w1 ⟨ds, rfl, hD, hB⟩
  have HD := Lib.hid hD
  have HC1 := Lib.hid ((hB.block w.heap.size (by simp)).trans HC.out)
  have HB1 := Lib.hid (HB0.out.trans (hB.mono HB0.out.size))
  have hs1 : w.heap.size + 1 ≤ w1.heap.size := by have := hB.size; simpa using this
  clear c1 d1 hB hD HB0 HC
  generalize Z.setIfInBounds 0 (.int .i64 8380416) = cs at *
  go_wp2_with (refine wpList_store_row rfl 23 (.tmp 2) (.tmp 5) rfl w1.heap.size ds rfl rfl 23 Z (heap_alloc_last w1 _) (poly_sized HD.out) (by rw [HZ.out.1, HD.out.1]) HD.out.cells ?_)
  rw [World.setRow_alloc_new]
  have HB2 := Lib.hid (HB1.out.alloc HB1.out.size (.cells ds 23))
  have HF := Lib.hid (heap_alloc_last w1 (.cells ds 23))
  have HC2 := Lib.hid ((Below.heap_alloc w1 (.cells ds 23) w.heap.size (by omega)).trans HC1.out)
  obtain ⟨bP, hbP⟩ : ∃ b, w.heap.size = b := ⟨_, rfl⟩
  obtain ⟨bF, hbF⟩ : ∃ b, w1.heap.size = b := ⟨_, rfl⟩
  rw [hbP] at HC2; rw [hbF] at HF
  have HSA : Hid (Sx [(bP, cs), (bF, ds)] (w1.alloc (.cells ds 23)).drew) := Lib.hid (fun x hx => by
    rcases List.mem_cons.1 hx with rfl | hx
    · exact HC2.out
    · rcases List.mem_cons.1 hx with rfl | hx
      · exact HF.out
      · cases hx)
  have HB3 := Lib.hid HB2.out.drew
  change Code.wp _ _ _ _ (w1.alloc (.cells ds 23))
  generalize w1.alloc (.cells ds 23) = w2 at *
  rw [hbF, hbP]
  have E0 := Lib.hid (show ds[0]? = some (.int .i64 8380416) by rw [HD.out.2 0 (by omega), up_at, K0.out])
  have E1 := Lib.hid (show ds[255]? = some (.int .i64 8380416) by rw [HD.out.2 255 (by omega), up_at, K1.out])
  clear hbF HC1 HB1 hs1 HC2 HF HB2
  refine region_calm ?_
  refine wp_region_any (by kernel_rfl) ?_
  change wpAny _ _ _ _ _ _ _ (World.drew _)
  refine wpAny_of_held (S := Sx [(bP, cs), (bF, ds)]) _ _ _ _ ?_
  refine wpAnyH_take (i := 0) (v := .agg cs) rfl (by kernel_rfl) (by kernel_rfl) (by kernel_rfl) (fun _ _ _ h => h) (Or.inl ⟨by rfl, ?y0v⟩) HSA.out ?r0v
  case y0v => (intro w' hSw; exact exec_load (.tmp 1) (by rfl) bP cs (by rfl) (hSw (bP, cs) (by simp)) (poly_sized HP.out))
  simp only [List.getElem_toArray, List.getElem_cons_succ, List.getElem_cons_zero, Act.put, List.setIfInBounds_toArray, List.set_cons_zero, List.set_cons_succ]
  refine wpAnyH_ready (rs := [1]) (by kernel_rfl) (by simp) ?_
  refine AllReadyH.cons rfl (fun K hK => ?_) AllReadyH.nil
  simp only [List.getElem_toArray, List.getElem_cons_succ, List.getElem_cons_zero]
  go_simp
  refine (cen_any cs p0 _ HP.out p0_fits).mono ?_
  rintro e' vw1 ⟨ms, rfl, hM, hB⟩
  have HSvw1 := Lib.hid (sx_below HSA.out (below_of_drew' hB))
  have HBvw1 := Lib.hid (HB3.out.trans ((below_of_drew' hB).mono HB3.out.size))
  clear hB
  have hix := run_index_one (P := Try.prog) 23 3 256 _ ms .i64 0 _ Try.underlying23 Try.underlying3 rfl (by kernel_rfl) (by omega) (show ms[0]? = some (.int .i64 (-1)) by rw [hM.2 0 (by omega)]; show some (Value.int .i64 (cen (redp p0 0))) = _; rw [K2.out])
  have hix : ∀ w, (Instr.index 23 (.agg ms) (.int .i64 0)).run Try.prog w = .ok (.int .i64 (-1)) w := hix
  clear hM
  refine hK.out _ _ HSvw1.out (fun _ => ?_)
  clear hK K
  try simp only [List.getElem_toArray, List.getElem_cons_succ, List.getElem_cons_zero, Act.put, List.setIfInBounds_toArray, List.set_cons_zero, List.set_cons_succ]
  refine wpAnyH_take (i := 2) (v := ?v2v) rfl (by kernel_rfl) (by kernel_rfl) (by kernel_rfl) (fun _ _ _ h => h) (Or.inl ⟨by rfl, ?y2v⟩) HSvw1.out ?r2v
  case y2v => (intro w' hSw; clear hSw; go_simp; try with_reducible rfl)
  simp only [List.getElem_toArray, List.getElem_cons_succ, List.getElem_cons_zero, Act.put, List.setIfInBounds_toArray, List.set_cons_zero, List.set_cons_succ]
  refine wpAnyH_take (i := 3) (v := ?v3v) rfl (by kernel_rfl) (by kernel_rfl) (by kernel_rfl) (fun _ _ _ h => h) (Or.inl ⟨by rfl, ?y3v⟩) HSvw1.out ?r3v
  case y3v => (intro w' hSw; clear hSw; go_simp; try with_reducible rfl)
  simp only [List.getElem_toArray, List.getElem_cons_succ, List.getElem_cons_zero, Act.put, List.setIfInBounds_toArray, List.set_cons_zero, List.set_cons_succ]
  refine wpAnyH_take (i := 4) (v := ?v4v) rfl (by kernel_rfl) (by kernel_rfl) (by kernel_rfl) (fun _ _ _ h => h) (Or.inl ⟨by rfl, ?y4v⟩) HSvw1.out ?r4v
  case y4v => (intro w' hSw; clear hSw; go_simp; try with_reducible rfl)
  simp only [List.getElem_toArray, List.getElem_cons_succ, List.getElem_cons_zero, Act.put, List.setIfInBounds_toArray, List.set_cons_zero, List.set_cons_succ]
  refine wpAnyH_take (i := 5) (v := ?v5v) rfl (by kernel_rfl) (by kernel_rfl) (by kernel_rfl) (fun _ _ _ h => h) (Or.inl ⟨by rfl, ?y5v⟩) HSvw1.out ?r5v
  case y5v => (intro w' hSw; clear hSw; go_simp; try with_reducible rfl)
  simp only [List.getElem_toArray, List.getElem_cons_succ, List.getElem_cons_zero, Act.put, List.setIfInBounds_toArray, List.set_cons_zero, List.set_cons_succ]
  refine wpAnyH_take (i := 6) (v := ?v6v) rfl (by kernel_rfl) (by kernel_rfl) (by kernel_rfl) (fun _ _ _ h => h) (Or.inl ⟨by rfl, ?y6v⟩) HSvw1.out ?r6v
  case y6v => (intro w' hSw; have c := sx_cell hSw (bF, ds) (by simp) 0 E0.out; clear hSw; dsimp only at c; go_simp; try with_reducible rfl)
  simp only [List.getElem_toArray, List.getElem_cons_succ, List.getElem_cons_zero, Act.put, List.setIfInBounds_toArray, List.set_cons_zero, List.set_cons_succ]
  refine wpAnyH_take (i := 7) (v := ?v7v) rfl (by kernel_rfl) (by kernel_rfl) (by kernel_rfl) (fun _ _ _ h => h) (Or.inl ⟨by rfl, ?y7v⟩) HSvw1.out ?r7v
  case y7v => (intro w' hSw; clear hSw; go_simp; try with_reducible rfl)
  simp only [List.getElem_toArray, List.getElem_cons_succ, List.getElem_cons_zero, Act.put, List.setIfInBounds_toArray, List.set_cons_zero, List.set_cons_succ]
  refine wpAnyH_take (i := 8) (v := ?v8v) rfl (by kernel_rfl) (by kernel_rfl) (by kernel_rfl) (fun _ _ _ h => h) (Or.inl ⟨by rfl, ?y8v⟩) HSvw1.out ?r8v
  case y8v => (intro w' hSw; clear hSw; go_simp; try with_reducible rfl)
  simp only [List.getElem_toArray, List.getElem_cons_succ, List.getElem_cons_zero, Act.put, List.setIfInBounds_toArray, List.set_cons_zero, List.set_cons_succ]
  refine wpAnyH_take (i := 9) (v := ?v9v) rfl (by kernel_rfl) (by kernel_rfl) (by kernel_rfl) (fun _ _ _ h => h) (Or.inl ⟨by rfl, ?y9v⟩) HSvw1.out ?r9v
  case y9v => (intro w' hSw; clear hSw; go_simp; try with_reducible rfl)
  simp only [List.getElem_toArray, List.getElem_cons_succ, List.getElem_cons_zero, Act.put, List.setIfInBounds_toArray, List.set_cons_zero, List.set_cons_succ]
  refine wpAnyH_take (i := 10) (v := ?v10v) rfl (by kernel_rfl) (by kernel_rfl) (by kernel_rfl) (fun _ _ _ h => h) (Or.inl ⟨by rfl, ?y10v⟩) HSvw1.out ?r10v
  case y10v => (intro w' hSw; clear hSw; go_simp; try with_reducible rfl)
  simp only [List.getElem_toArray, List.getElem_cons_succ, List.getElem_cons_zero, Act.put, List.setIfInBounds_toArray, List.set_cons_zero, List.set_cons_succ]
  refine wpAnyH_take (i := 11) (v := ?v11v) rfl (by kernel_rfl) (by kernel_rfl) (by kernel_rfl) (fun _ _ _ h => h) (Or.inl ⟨by rfl, ?y11v⟩) HSvw1.out ?r11v
  case y11v => (intro w' hSw; have c := sx_cell hSw (bF, ds) (by simp) 255 E1.out; clear hSw; dsimp only at c; go_simp; try with_reducible rfl)
  simp only [List.getElem_toArray, List.getElem_cons_succ, List.getElem_cons_zero, Act.put, List.setIfInBounds_toArray, List.set_cons_zero, List.set_cons_succ]
  refine wpAnyH_take (i := 12) (v := ?v12v) rfl (by kernel_rfl) (by kernel_rfl) (by kernel_rfl) (fun _ _ _ h => h) (Or.inl ⟨by rfl, ?y12v⟩) HSvw1.out ?r12v
  case y12v => (intro w' hSw; clear hSw; go_simp; try with_reducible rfl)
  simp only [List.getElem_toArray, List.getElem_cons_succ, List.getElem_cons_zero, Act.put, List.setIfInBounds_toArray, List.set_cons_zero, List.set_cons_succ]
  refine wpAnyH_take (i := 13) (v := ?v13v) rfl (by kernel_rfl) (by kernel_rfl) (by kernel_rfl) (fun _ _ _ h => h) (Or.inl ⟨by rfl, ?y13v⟩) HSvw1.out ?r13v
  case y13v => (intro w' hSw; clear hSw; go_simp; try with_reducible rfl)
  simp only [List.getElem_toArray, List.getElem_cons_succ, List.getElem_cons_zero, Act.put, List.setIfInBounds_toArray, List.set_cons_zero, List.set_cons_succ]
  refine wpAnyH_take (i := 14) (v := ?v14v) rfl (by kernel_rfl) (by kernel_rfl) (by kernel_rfl) (fun _ _ _ h => h) (Or.inl ⟨by rfl, ?y14v⟩) HSvw1.out ?r14v
  case y14v => (intro w' hSw; clear hSw; go_simp; try with_reducible rfl)
  simp only [List.getElem_toArray, List.getElem_cons_succ, List.getElem_cons_zero, Act.put, List.setIfInBounds_toArray, List.set_cons_zero, List.set_cons_succ]
  refine wpAnyH_take (i := 15) (v := .agg ds) rfl (by kernel_rfl) (by kernel_rfl) (by kernel_rfl) (fun _ _ _ h => h) (Or.inl ⟨by rfl, ?y15v⟩) HSvw1.out ?r15v
  case y15v => (intro w' hSw; exact exec_load (.tmp 2) (by rfl) bF ds (by rfl) (hSw (bF, ds) (by simp)) (poly_sized HD.out))
  simp only [List.getElem_toArray, List.getElem_cons_succ, List.getElem_cons_zero, Act.put, List.setIfInBounds_toArray, List.set_cons_zero, List.set_cons_succ]
  refine wpAnyH_take (i := 17) (v := .agg cs) rfl (by kernel_rfl) (by kernel_rfl) (by kernel_rfl) (fun _ _ _ h => h) (Or.inl ⟨by rfl, ?y17v⟩) HSvw1.out ?r17v
  case y17v => (intro w' hSw; exact exec_load (.tmp 1) (by rfl) bP cs (by rfl) (hSw (bP, cs) (by simp)) (poly_sized HP.out))
  simp only [List.getElem_toArray, List.getElem_cons_succ, List.getElem_cons_zero, Act.put, List.setIfInBounds_toArray, List.set_cons_zero, List.set_cons_succ]
  refine wpAnyH_ready (rs := [16]) (by kernel_rfl) (by simp) ?_
  refine AllReadyH.cons rfl (fun K hK => ?_) AllReadyH.nil
  simp only [List.getElem_toArray, List.getElem_cons_succ, List.getElem_cons_zero]
  go_simp
  refine (inv_any ds _ _ HD.out (fits_up _)).mono ?_
  rintro e' vw2 ⟨is, rfl, hI, hB⟩
  have HSvw2 := Lib.hid (sx_below HSvw1.out (below_of_drew' hB))
  have HBvw2 := Lib.hid (HBvw1.out.trans ((below_of_drew' hB).mono HBvw1.out.size))
  clear hB
  rw [redp_up, inv_ntt] at hI
  obtain rfl : cs = is := HP.out.one hI (fun i _ => by rw [up_at, p0_red])
  clear hI
  refine hK.out _ _ HSvw2.out (fun _ => ?_)
  clear hK K
  try simp only [List.getElem_toArray, List.getElem_cons_succ, List.getElem_cons_zero, Act.put, List.setIfInBounds_toArray, List.set_cons_zero, List.set_cons_succ]
  refine wpAnyH_take (i := 18) (v := .bool true) rfl (by kernel_rfl) (by kernel_rfl) (by kernel_rfl) (fun _ _ _ h => h) (Or.inl ⟨by rfl, ?y18v⟩) HSvw2.out ?r18v
  case y18v => (intro w' hSw; exact exec_eq (.tmp 22) (.tmp 23) _ (by rfl) _ HP.out (by rfl) (by rfl))
  simp only [List.getElem_toArray, List.getElem_cons_succ, List.getElem_cons_zero, Act.put, List.setIfInBounds_toArray, List.set_cons_zero, List.set_cons_succ]
  refine wpAnyH_take (i := 19) (v := ?v19v) rfl (by kernel_rfl) (by kernel_rfl) (by kernel_rfl) (fun _ _ _ h => h) (Or.inl ⟨by rfl, ?y19v⟩) HSvw2.out ?r19v
  case y19v => (intro w' hSw; clear hSw; go_simp; try with_reducible rfl)
  simp only [List.getElem_toArray, List.getElem_cons_succ, List.getElem_cons_zero, Act.put, List.setIfInBounds_toArray, List.set_cons_zero, List.set_cons_succ]
  refine wpAnyH_take (i := 20) (v := ?v20v) rfl (by kernel_rfl) (by kernel_rfl) (by kernel_rfl) (fun _ _ _ h => h) (Or.inl ⟨by rfl, ?y20v⟩) HSvw2.out ?r20v
  case y20v => (intro w' hSw; clear hSw; go_simp; try with_reducible rfl)
  simp only [List.getElem_toArray, List.getElem_cons_succ, List.getElem_cons_zero, Act.put, List.setIfInBounds_toArray, List.set_cons_zero, List.set_cons_succ]
  refine wpAnyH_take (i := 21) (v := .agg cs) rfl (by kernel_rfl) (by kernel_rfl) (by kernel_rfl) (fun _ _ _ h => h) (Or.inl ⟨by rfl, ?y21v⟩) HSvw2.out ?r21v
  case y21v => (intro w' hSw; exact exec_load (.tmp 1) (by rfl) bP cs (by rfl) (hSw (bP, cs) (by simp)) (poly_sized HP.out))
  simp only [List.getElem_toArray, List.getElem_cons_succ, List.getElem_cons_zero, Act.put, List.setIfInBounds_toArray, List.set_cons_zero, List.set_cons_succ]
  refine wpAnyH_ready (rs := [22]) (by kernel_rfl) (by simp) ?_
  refine AllReadyH.cons rfl (fun K hK => ?_) AllReadyH.nil
  simp only [List.getElem_toArray, List.getElem_cons_succ, List.getElem_cons_zero]
  go_simp
  refine (size_any cs p0 _ HP.out p0_fits).mono ?_
  rintro e' vw3 ⟨rfl, hB⟩
  have HSvw3 := Lib.hid (sx_below HSvw2.out (below_of_drew' hB))
  have HBvw3 := Lib.hid (HBvw2.out.trans ((below_of_drew' hB).mono HBvw2.out.size))
  clear hB
  rw [K3.out]
  refine hK.out _ _ HSvw3.out (fun _ => ?_)
  clear hK K
  try simp only [List.getElem_toArray, List.getElem_cons_succ, List.getElem_cons_zero, Act.put, List.setIfInBounds_toArray, List.set_cons_zero, List.set_cons_succ]
  refine wpAnyH_take (i := 23) (v := ?v23v) rfl (by kernel_rfl) (by kernel_rfl) (by kernel_rfl) (fun _ _ _ h => h) (Or.inl ⟨by rfl, ?y23v⟩) HSvw3.out ?r23v
  case y23v => (intro w' hSw; clear hSw; go_simp; try with_reducible rfl)
  simp only [List.getElem_toArray, List.getElem_cons_succ, List.getElem_cons_zero, Act.put, List.setIfInBounds_toArray, List.set_cons_zero, List.set_cons_succ]
  refine wpAnyH_take (i := 24) (v := ?v24v) rfl (by kernel_rfl) (by kernel_rfl) (by kernel_rfl) (fun _ _ _ h => h) (Or.inl ⟨by rfl, ?y24v⟩) HSvw3.out ?r24v
  case y24v => (intro w' hSw; clear hSw; go_simp; try with_reducible rfl)
  simp only [List.getElem_toArray, List.getElem_cons_succ, List.getElem_cons_zero, Act.put, List.setIfInBounds_toArray, List.set_cons_zero, List.set_cons_succ]
  refine wpAnyH_take (i := 25) (v := ?v25v) rfl (by kernel_rfl) (by kernel_rfl) (by kernel_rfl) (fun _ _ _ h => h) (Or.inl ⟨by rfl, ?y25v⟩) HSvw3.out ?r25v
  case y25v => (intro w' hSw; clear hSw; go_simp; try with_reducible rfl)
  simp only [List.getElem_toArray, List.getElem_cons_succ, List.getElem_cons_zero, Act.put, List.setIfInBounds_toArray, List.set_cons_zero, List.set_cons_succ]
  refine wpAnyH_done (by kernel_rfl) ?_ _
  change Exit.then _ _ Exit.normal _ _
  go_wp2
  go_ret
  exact ⟨rfl, HBvw3.out⟩
end Go.Proofs.Ytaihlmedeebimaa.Lg
