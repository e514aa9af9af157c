/- Walks: brought; what makes the iterators of groups. -/
import Derived.Test.YtdkhiooiakdecaaDoorRKpWalkC
import Derived.Test.YtdkhiooiakdecaaDoorRSmMid
namespace Go.Proofs.YtdkhiooiakdecaaDoorR.Kp
set_option linter.all false
open Go.RowKit Iter Sm

/-- what a number is brought to, of d bits -/
def brv (d : Nat) (n : Int) : Nat := if d = 12 then rq n else rd2 d n
theorem brv_lt (d : Nat) (n : Int) : brv d n < 2 ^ d := by
  unfold brv
  split
  · rename_i h; subst h; have := rq_lt n; omega
  · exact rd2_lt d n
theorem sx_one {a : Nat × Array Value} {w : World} (h : w.heap[a.1]? = some (.cells a.2 26 (0, 0))) : Sx [a] w := fun x hx => by
  simp only [List.mem_cons, List.not_mem_nil, or_false] at hx
  subst hx
  exact h
theorem sxs_setRow {l : List (Nat × Array Value)} {w : World} {b : Nat} (h : Sx l w) (hn : ∀ x ∈ l, x.1 ≠ b) (cs : Array Value) : Sx l (w.setRow b cs) := fun x hx => (setRow_other w b x.1 cs (hn x hx)).trans (h x hx)

set_option maxHeartbeats 2000000 in
set_option maxRecDepth 100000 in
theorem brought_any (d : Nat) (cs : Array Value) (p : Nat → Int) (w : World) (hP : IsP cs p) (hF : Fits p) (h2 : d ≤ 12) :
    Calls Tryd.prog 34 #[.int .i64 d, .agg cs] w fun e w' => ∃ ds, e = .returned (.agg ds) ∧ IsP ds (fun i => (brv d (p i) : Nat)) ∧ Below w.heap.size w w' := by
  have hmf : ∀ (fn : Fn) (first cap : Array Value) (w : World), (Instr.makeFunc fn first cap).run Tryd.prog w = .ok (.func fn first cap) w := fun _ _ _ _ => rfl
  have HF := Lib.hid hF; have HP := Lib.hid hP
  clear hP hF
  obtain ⟨Z, hz, hZ⟩ := zero_poly
  have HZ := Lib.hid hZ; clear hZ
  have e1 : (w.alloc (.cells #[.int .i64 d] 3)).heap.size = w.heap.size + 1 := by simp
  have e2 : ((w.alloc (.cells #[.int .i64 d] 3)).alloc (.cells cs 26)).heap.size = w.heap.size + 2 := by simp
  have e3 : (((w.alloc (.cells #[.int .i64 d] 3)).alloc (.cells cs 26)).alloc (.cells Z 26)).heap.size = w.heap.size + 3 := by simp
  have g1 := heap_alloc_last (w.alloc (.cells #[.int .i64 d] 3)) (.cells cs 26)
  rw [e1] at g1
  have g1 := (Below.heap_alloc ((w.alloc (.cells #[.int .i64 d] 3)).alloc (.cells cs 26)) (.cells Z 26) (w.heap.size + 1) (by rw [e2]; omega)).trans g1
  have g2 := heap_alloc_last ((w.alloc (.cells #[.int .i64 d] 3)).alloc (.cells cs 26)) (.cells Z 26)
  rw [e2] at g2
  have gd : (((w.alloc (.cells #[.int .i64 d] 3)).alloc (.cells cs 26)).alloc (.cells Z 26)).cell? ⟨w.heap.size, 0, none⟩ = some (.int .i64 d) := by
    have g := heap_alloc_last w (.cells #[.int .i64 d] 3)
    have g' := (Below.heap_alloc (w.alloc (.cells #[.int .i64 d] 3)) (.cells cs 26) w.heap.size (by rw [e1]; omega)).trans g
    have g'' := (Below.heap_alloc ((w.alloc (.cells #[.int .i64 d] 3)).alloc (.cells cs 26)) (.cells Z 26) w.heap.size (by rw [e2]; omega)).trans g'
    rw [cell_of_row _ _ 0 _ 3 (0, 0) g'']; rfl
  have hB := (((Below.refl w.heap.size w).alloc (Nat.le_refl _) (.cells #[.int .i64 d] 3)).alloc (by simp) (.cells cs 26)).alloc (by rw [e2]; omega) (.cells Z 26)
  have hi := poly_sized HP.out
  have HI := Lib.hid hi; have HG1 := Lib.hid g1; have HG2 := Lib.hid g2; have HGD := Lib.hid gd; have HB := Lib.hid hB; have HE3 := Lib.hid e3
  clear hi g1 g2 gd hB e1 e2 e3
  by_cases h12 : d = 12
  · subst h12
    go_enter Tryd.func34, Tryd.ntmps34
    go_wp2_with (refine wpList_load_row rfl 26 (.tmp 3) rfl (w.heap.size + 1) rfl 26 cs (0, 0) _ HG1.out Tryd.underlying26 rfl HI.out ?_)
    refine (mod_any cs p _ HP.out HF.out).mono ?_
    rintro e w1 ⟨ds, rfl, hD, hB1⟩
    have hq := (hB1.block (w.heap.size + 2) (by simp)).trans HG2.out
    have hD' : IsP ds (fun i => ((brv 12 (p i) : Nat) : Int)) := hD.congr fun i hi => by
      show nv (red (p i)) = _
      unfold brv; rw [if_pos rfl, nv_rq]
    have HD := Lib.hid hD'; have HQ := Lib.hid hq; have HB1 := Lib.hid (HB.out.trans (hB1.mono HB.out.size))
    have hi2 := poly_sized hD'
    have hzm : Z.size = ds.size := by rw [HZ.out.1, hD'.1]
    have HI2 := Lib.hid hi2; have HM := Lib.hid hzm
    clear hD hD' hq hB1 hi2 hzm
    go_wp2_with (refine wpList_store_row rfl 26 (.tmp 4) (.tmp 8) rfl (w.heap.size + 2) ds rfl rfl 26 Z HQ.out HI2.out HM.out HD.out.cells ?_)
    refine bodyPost_ret (v := .agg ds) (results_cell_row (p := 4) (ty := 26) (by kernel_rfl) _ _ (w.heap.size + 2) 26 ds (0, 0) _ rfl (setRow_heap _ _ _ _ _ _ HQ.out) Tryd.underlying26 rfl HI2.out) rfl ⟨ds, rfl, HD.out, below_setRow HB1.out (by omega) _⟩
  · have hdn : ¬ ((d : Int) = 12) := by omega
    have hdb : ((d : Int) == 12) = false := by rw [beq_eq_false_iff_ne]; omega
    have HN := Lib.hid (fun _ : Unit => h12)
    clear h12
    go_enter Tryd.func34, Tryd.ntmps34
    go_wp2
    obtain ⟨W0, hW0⟩ : ∃ W0, ((w.alloc (.cells #[.int .i64 d] 3)).alloc (.cells cs 26)).alloc (.cells Z 26) = W0 := ⟨_, rfl⟩
    rw [hW0] at HG1 HG2 HGD HB HE3
    rw [hW0]
    clear hW0
    refine region_calm ?_
    refine wp_region_any (by kernel_rfl) ?_
    change wpAny _ _ _ _ _ _ _ (World.drew W0)
    have HS : Hid (Sx [(w.heap.size + 1, cs)] W0.drew) := Lib.hid (sx_one HG1.out)
    refine wpAny_of_held (S := Sx [(w.heap.size + 1, cs)]) _ _ _ _ ?_
    refine wpAnyH_take (i := 0) (v := .func (.func 45) #[] #[.pointer (some ⟨w.heap.size, 0, none⟩)]) rfl (by kernel_rfl) (by kernel_rfl) (by kernel_rfl) (fun _ _ _ h => h) (Or.inl ⟨by rfl, ?y0⟩) HS.out ?r0
    case y0 => (intro w' hSw; clear hSw; go_simp; try with_reducible rfl)
    simp only [List.getElem_toArray, List.getElem_cons_succ, List.getElem_cons_zero, Act.put, List.setIfInBounds_toArray, List.set_cons_zero, List.set_cons_succ]
    refine wpAnyH_take (i := 2) (v := .agg cs) rfl (by kernel_rfl) (by kernel_rfl) (by kernel_rfl) (fun _ _ _ h => h) (Or.inl ⟨by rfl, ?y2⟩) HS.out ?r2
    case y2 => (intro w' hSw; exact exec_load (.tmp 3) (by rfl) (w.heap.size + 1) cs (by rfl) (hSw (w.heap.size + 1, cs) (by simp)) HI.out)
    simp only [List.getElem_toArray, List.getElem_cons_succ, List.getElem_cons_zero, Act.put, List.setIfInBounds_toArray, List.set_cons_zero, List.set_cons_succ]
    refine wpAnyH_ready (rs := [1]) (by kernel_rfl) (by simp) ?_
    refine AllReadyH.cons rfl (fun K hK => ?_) AllReadyH.nil
    simp only [List.getElem_toArray, List.getElem_cons_succ, List.getElem_cons_zero]
    go_simp
    refine (changing_b w.heap.size _).mono ?_
    rintro e' w1 ⟨rfl, hw1⟩
    have hB1 : Below W0.heap.size W0 w1 := by rw [hw1]; exact (below_drewN (Below.refl _ _) 1).alloc (Nat.le_refl _) _
    have hc1 : w1.cell? ⟨W0.heap.size, 0, none⟩ = some (.func (.func 45) #[] #[.pointer (some ⟨w.heap.size, 0, none⟩)]) := by
      rw [hw1]; show (W0.drew.alloc _).cell? ⟨W0.drew.heap.size, 0, none⟩ = _; rw [cell_of_row _ _ 0 _ _ (0, 0) (heap_alloc_last W0.drew _)]; rfl
    have HS1 := Lib.hid (sx_below HS.out (⟨hB1.os, hB1.tape, hB1.output, hB1.size, hB1.block⟩ : Below W0.drew.heap.size W0.drew w1))
    have HC1 := Lib.hid hc1; have HB1 := Lib.hid hB1
    clear hB1 hc1 hw1
    refine hK.out _ _ HS1.out (fun _ => ?_)
    clear hK K
    try simp only [List.getElem_toArray, List.getElem_cons_succ, List.getElem_cons_zero, Act.put, List.setIfInBounds_toArray, List.set_cons_zero, List.set_cons_succ]
    refine wpAnyH_ready (rs := [3]) (by kernel_rfl) (by simp) ?_
    refine AllReadyH.cons rfl (fun K hK => ?_) AllReadyH.nil
    simp only [List.getElem_toArray, List.getElem_cons_succ, List.getElem_cons_zero]
    go_simp
    have hw0 := HB.out.size
    refine (changed_b _ w.heap.size (fun n => ((rd2 d n : Nat) : Int)) cs p _ HP.out HC1.out (fun W i hi hB => ?cl)).mono ?_
    case cl =>
      refine (brought1_any w.heap.size d (p i) W h2 ?_).mono ?_
      · have h3 := HB1.out.size
        exact (hB.cell (p := ⟨w.heap.size, 0, none⟩) (by show w.heap.size < _; have := HE3.out; omega)).trans ((HB1.out.cell (p := ⟨w.heap.size, 0, none⟩) (by show w.heap.size < _; have := HE3.out; omega)).trans HGD.out)
      · exact fun e w' h => h
    rintro e' w2 ⟨ds, rfl, hD, hB2⟩
    have HB2 := Lib.hid (HB1.out.trans (hB2.mono HB1.out.size))
    have HS2 := Lib.hid (sx_below HS1.out hB2)
    have hD' : IsP ds (fun i => ((brv d (p i) : Nat) : Int)) := hD.congr fun i hi => by unfold brv; rw [if_neg (HN.out ())]
    have HD := Lib.hid hD'
    clear hD hD' hB2
    refine hK.out _ _ HS2.out (fun _ => ?_)
    clear hK K
    try simp only [List.getElem_toArray, List.getElem_cons_succ, List.getElem_cons_zero, Act.put, List.setIfInBounds_toArray, List.set_cons_zero, List.set_cons_succ]
    have HQ := Lib.hid ((HB2.out.block (w.heap.size + 2) (by have := HE3.out; omega)).trans HG2.out)
    have HSR := Lib.hid (sxs_setRow HS2.out (b := w.heap.size + 2) (fun x hx => by simp only [List.mem_cons, List.not_mem_nil, or_false] at hx; subst hx; show w.heap.size + 1 ≠ _; omega) ds)
    refine wpAnyH_ready (rs := [4]) (by kernel_rfl) (by simp) ?_
    refine AllReadyH.cons rfl (fun K hK => ?_) AllReadyH.nil
    simp only [List.getElem_toArray, List.getElem_cons_succ, List.getElem_cons_zero]
    refine step_of (by rfl) (wp_store_row 26 (.tmp 4) (.tmp 12) rfl _ ds rfl rfl 26 Z HQ.out (poly_sized HD.out) (by rw [HZ.out.1, HD.out.1]) HD.out.cells (hK.out _ _ HSR.out (fun _ => ?_)))
    clear hK K
    try simp only [List.getElem_toArray, List.getElem_cons_succ, List.getElem_cons_zero, Act.put, List.setIfInBounds_toArray, List.set_cons_zero, List.set_cons_succ]
    refine wpAnyH_done (by kernel_rfl) ?_ _
    have HB3 := Lib.hid (HB.out.trans (HB2.out.mono HB.out.size))
    go_wp2
    refine bodyPost_ret (v := .agg ds) (results_cell_row (p := 4) (ty := 26) (by kernel_rfl) _ _ (w.heap.size + 2) 26 ds (0, 0) _ rfl (setRow_heap _ _ _ _ _ _ HQ.out) Tryd.underlying26 rfl (poly_sized HD.out)) rfl ⟨ds, rfl, HD.out, below_setRow HB3.out (by omega) _⟩

/-! ### What makes the iterators -/
theorem regb_any (A : Option Addr) (n c : Nat) (h d : Int) (w : World) :
    Calls Tryd.prog 39 #[.slice A n c, .int .i64 h, .int .i64 d] w fun e w' => e = .returned (.func (.func 49) #[] #[.pointer (some ⟨w.heap.size, 0, none⟩), .pointer (some ⟨w.heap.size + 1, 0, none⟩), .pointer (some ⟨w.heap.size + 2, 0, none⟩)]) ∧
      w' = ((w.alloc (.cells #[.slice A n c] 22)).alloc (.cells #[.int .i64 h] 3)).alloc (.cells #[.int .i64 d] 3) := by
  go_enter Tryd.func39, Tryd.ntmps39
  go_wp2
  go_ret
  exact ⟨rfl, rfl⟩
theorem regi_any (A : Option Addr) (n c : Nat) (h d : Int) (w : World) :
    Calls Tryd.prog 35 #[.slice A n c, .int .i64 h, .int .i64 d] w fun e w' => e = .returned (.func (.func 46) #[] #[.pointer (some ⟨w.heap.size, 0, none⟩), .pointer (some ⟨w.heap.size + 1, 0, none⟩), .pointer (some ⟨w.heap.size + 2, 0, none⟩)]) ∧
      w' = ((w.alloc (.cells #[.slice A n c] 51)).alloc (.cells #[.int .i64 h] 3)).alloc (.cells #[.int .i64 d] 3) := by
  go_enter Tryd.func35, Tryd.ntmps35
  go_wp2
  go_ret
  exact ⟨rfl, rfl⟩
/-- the three boxes behind such a call -/
theorem three_boxes (w : World) (a b c : Value) (ta tb tc : TypeId) :
    let w' := ((w.alloc (.cells #[a] ta)).alloc (.cells #[b] tb)).alloc (.cells #[c] tc)
    w'.cell? ⟨w.heap.size, 0, none⟩ = some a ∧ w'.cell? ⟨w.heap.size + 1, 0, none⟩ = some b ∧ w'.cell? ⟨w.heap.size + 2, 0, none⟩ = some c ∧ w'.heap.size = w.heap.size + 3 ∧ Below w.heap.size w w' := by
  intro w'
  have e1 : (w.alloc (.cells #[a] ta)).heap.size = w.heap.size + 1 := by simp
  have e2 : ((w.alloc (.cells #[a] ta)).alloc (.cells #[b] tb)).heap.size = w.heap.size + 2 := by simp
  have g1 := heap_alloc_last w (.cells #[a] ta)
  have g1' := (Below.heap_alloc (w.alloc (.cells #[a] ta)) (.cells #[b] tb) w.heap.size (by rw [e1]; omega)).trans g1
  have g1'' := (Below.heap_alloc ((w.alloc (.cells #[a] ta)).alloc (.cells #[b] tb)) (.cells #[c] tc) w.heap.size (by rw [e2]; omega)).trans g1'
  have g2 := heap_alloc_last (w.alloc (.cells #[a] ta)) (.cells #[b] tb)
  rw [e1] at g2
  have g2' := (Below.heap_alloc ((w.alloc (.cells #[a] ta)).alloc (.cells #[b] tb)) (.cells #[c] tc) (w.heap.size + 1) (by rw [e2]; omega)).trans g2
  have g3 := heap_alloc_last ((w.alloc (.cells #[a] ta)).alloc (.cells #[b] tb)) (.cells #[c] tc)
  rw [e2] at g3
  refine ⟨?_, ?_, ?_, ?_, ?_⟩
  · rw [cell_of_row _ _ 0 _ ta (0, 0) g1'']; rfl
  · rw [cell_of_row _ _ 0 _ tb (0, 0) g2']; rfl
  · rw [cell_of_row _ _ 0 _ tc (0, 0) g3]; rfl
  · simp [w']
  · exact (((Below.refl w.heap.size w).alloc (Nat.le_refl _) _).alloc (by simp) _).alloc (by rw [e2]; omega) _
end Go.Proofs.YtdkhiooiakdecaaDoorR.Kp
