/- Walks: drawn. -/
import Derived.Test.YtdkhiooiakdecaaDoorRKpWalkH
import Derived.Test.YtdkhiooiakdecaaDoorRKpDrawP
namespace Go.Proofs.YtdkhiooiakdecaaDoorR.Kp
set_option linter.all false
open Go.RowKit Iter Sm
attribute [local go_sem] Oper.semAt_some

theorem run_loadVar_cell {P : Program} {w : World} {ty : TypeId} {a : Addr} {v : Value} (h : w.cell? a = some v) (hd : (isAgg ty).run P w = .ok false w) : (loadVar ty a).run P w = .ok v w := by
  have hl : (load a).run P w = .ok v w := by simp [h]
  unfold loadVar
  simp only [Sem.run_bind, hd, Result.andThen_ok]
  exact hl
theorem results_row_cell {P : Program} {fn : Func} {p u : Tmp} {ty tu : TypeId} (h : fn.results = #[.cell p ty, .cell u tu]) (tmps : Array Value) (w : World) (g k : Nat) (t : TypeId) (cs : Array Value) (fr : Nat × Nat) (d : TypeDesc) (v : Value)
    (hp : tmps.getD p undef = .pointer (some ⟨g, 0, none⟩)) (hk : tmps.getD u undef = .pointer (some ⟨k, 0, none⟩)) (hg : w.heap[g]? = some (.cells cs t fr)) (hc : w.cell? ⟨k, 0, none⟩ = some v)
    (hu : P.underlying ty = some d) (hd : (match d with | .struct _ | .array _ _ => true | _ => false) = true) (hi : (P.info? ty).map (·.size) = some cs.size) (ha : (isAgg tu).run P w = .ok false w) :
    (results fn tmps).run P w = .ok (.tuple #[.agg cs, v]) w := by
  have hp' : tmps[p]?.getD undef = .pointer (some ⟨g, 0, none⟩) := by simpa using hp
  have hk' : tmps[u]?.getD undef = .pointer (some ⟨k, 0, none⟩) := by simpa using hk
  unfold results
  simp only [h]
  simp [Sem.run_bind, hp', hk', asAddr, run_loadVar_row w g t ty cs fr d hg hu hd hi, run_loadVar_cell hc ha]

theorem _root_.Go.Proofs.YtdkhiooiakdecaaDoorR.Iter.Kept.setRow {X : Nat → Prop} (W : World) (g : Nat) (cs : Array Value) (h : X g) : Kept X W (W.setRow g cs) :=
  ⟨rfl, rfl, rfl, by simp [World.setRow], fun k _ hx => setRow_other W g k cs (fun e => hx (e ▸ h))⟩
/-- between two rounds -/
structure DrawI (r : Nat) (Z : Array Value) (c : Nat → Nat) (w : World) (k : Nat) (W : World) : Prop where
  res : W.heap[r]? = some (.cells Z 26 (0, 0))
  err : W.heap[r + 1]? = some (.cells #[.int .i64 0] 27 (0, 0))
  row : W.rowIs (r + 1 + 1) 26 256 (ints (accP c k))
  num : W.rowIs (r + 1 + 1 + 1) 3 1 (fun _ => .int .i64 ((acc c k).length : Nat))
  lt : (acc c k).length < 256
  below : Below w.heap.size w W
theorem DrawI.kept {r N : Nat} {Z : Array Value} {c : Nat → Nat} {w : World} {k : Nat} {A B : World} (h : DrawI r Z c w k A) (hk : Kept (fun x => N ≤ x) A B) (hr : r + 4 ≤ N) (hw : w.heap.size ≤ N) : DrawI r Z c w k B :=
  ⟨(hk.block r (Array.getElem?_eq_some_iff.1 h.res).1 (by omega)).trans h.res, (hk.block (r + 1) (Array.getElem?_eq_some_iff.1 h.err).1 (by omega)).trans h.err,
   h.row.of_block (hk.block _ h.row.lt (by omega)), h.num.of_block (hk.block _ h.num.lt (by omega)), h.lt, hk.below h.below (fun i e => by omega) h.below.size⟩
/-- when there are enough -/
structure DrawX (r : Nat) (c : Nat → Nat) (w : World) (k : Nat) (W : World) : Prop where
  res : ∃ ds, W.heap[r]? = some (.cells ds 26 (0, 0)) ∧ IsP ds (accP c k)
  err : W.rowIs (r + 1) 27 1 (fun _ => .int .i64 0)
  enough : (acc c k).length = 256
  below : Below w.heap.size w W
theorem DrawX.kept {r N : Nat} {c : Nat → Nat} {w : World} {k : Nat} {A B : World} (h : DrawX r c w k A) (hk : Kept (fun x => N ≤ x) A B) (hr : r + 4 ≤ N) (hw : w.heap.size ≤ N) : DrawX r c w k B := by
  obtain ⟨⟨ds, h1, h2⟩, h3, h4, h5⟩ := h
  exact ⟨⟨ds, (hk.block r (Array.getElem?_eq_some_iff.1 h1).1 (by omega)).trans h1, h2⟩, h3.of_block (hk.block _ h3.lt (by omega)), h4, hk.below h5 (fun i e => by omega) h5.size⟩
theorem DrawI.no {r : Nat} {Z : Array Value} {c : Nat → Nat} {w : World} {k : Nat} {W : World} (h : DrawI r Z c w k W) (hc : ¬ c k < 3329) : DrawI r Z c w (k + 1) W :=
  ⟨h.res, h.err, by rw [accP_no hc]; exact h.row, by rw [acc_no hc]; exact h.num, by rw [acc_no hc]; exact h.lt, h.below⟩
/-- one more -/
theorem DrawI.yes {r : Nat} {Z : Array Value} {c : Nat → Nat} {w : World} {k : Nat} {W : World} (h : DrawI r Z c w k W) (hc : c k < 3329) (hw : w.heap.size ≤ r) {x y : Int} (hx : x = (c k : Int)) (hy : y = (((acc c k).length + 1 : Nat) : Int)) (W2 : World)
    (hW2 : (W.setCell ⟨r + 1 + 1, (acc c k).length, none⟩ (.int .i64 x)).setCell ⟨r + 1 + 1 + 1, 0, none⟩ (.int .i64 y) = W2) :
    W2.heap[r]? = some (.cells Z 26 (0, 0)) ∧ W2.heap[r + 1]? = some (.cells #[.int .i64 0] 27 (0, 0)) ∧ W2.rowIs (r + 1 + 1) 26 256 (ints (accP c (k + 1))) ∧ W2.rowIs (r + 1 + 1 + 1) 3 1 (fun _ => .int .i64 ((acc c (k + 1)).length : Nat)) ∧ Below w.heap.size w W2 ∧ Kept (fun b => r ≤ b ∧ b < r + 4) W W2 := by
  subst hW2 hx hy
  refine ⟨(Below.heap_setCell _ ⟨r + 1 + 1 + 1, 0, none⟩ _ _ (by show r ≠ r + 1 + 1 + 1; omega)).trans ((Below.heap_setCell _ ⟨r + 1 + 1, _, none⟩ _ _ (by show r ≠ r + 1 + 1; omega)).trans h.res),
    (Below.heap_setCell _ ⟨r + 1 + 1 + 1, 0, none⟩ _ _ (by show r + 1 ≠ r + 1 + 1 + 1; omega)).trans ((Below.heap_setCell _ ⟨r + 1 + 1, _, none⟩ _ _ (by show r + 1 ≠ r + 1 + 1; omega)).trans h.err), ?_, ?_,
    (h.below.setCell (p := ⟨r + 1 + 1, _, none⟩) (by show w.heap.size ≤ r + 1 + 1; omega) _).setCell (p := ⟨r + 1 + 1 + 1, 0, none⟩) (by show w.heap.size ≤ r + 1 + 1 + 1; omega) _,
    (Kept.set W ⟨r + 1 + 1, _, none⟩ _ (by show r ≤ r + 1 + 1 ∧ r + 1 + 1 < r + 4; omega)).trans (Kept.set _ ⟨r + 1 + 1 + 1, 0, none⟩ _ (by show r ≤ r + 1 + 1 + 1 ∧ r + 1 + 1 + 1 < r + 4; omega))⟩
  · refine ((row_set h.row (acc c k).length (c k : Int)).setOther (a := ⟨r + 1 + 1 + 1, 0, none⟩) (by show r + 1 + 1 ≠ r + 1 + 1 + 1; omega) _).congr fun i hi => ?_
    unfold ints
    rw [accP_yes hc]
  · refine ((h.num.setOther (a := ⟨r + 1 + 1, (acc c k).length, none⟩) (by show r + 1 + 1 + 1 ≠ r + 1 + 1; omega) _).set 0 _).congr fun i hi => ?_
    obtain rfl : i = 0 := by omega
    rw [acc_len_yes hc]
    rfl
theorem draw_start (w : World) (Z : Array Value) (c : Nat → Nat) (hZ : IsP Z (fun _ => 0)) :
    let w' := (((w.alloc (.cells Z 26)).alloc (.cells #[.int .i64 0] 27)).alloc (.cells Z 26)).alloc (.cells #[.int .i64 0] 3)
    DrawI w.heap.size Z c w 0 w' ∧ w'.heap.size = w.heap.size + 4 := by
  intro w'
  have e1 : (w.alloc (.cells Z 26)).heap.size = w.heap.size + 1 := by simp
  have e2 : ((w.alloc (.cells Z 26)).alloc (.cells #[.int .i64 0] 27)).heap.size = w.heap.size + 2 := by simp
  have e3 : (((w.alloc (.cells Z 26)).alloc (.cells #[.int .i64 0] 27)).alloc (.cells Z 26)).heap.size = w.heap.size + 3 := by simp
  have a1 := heap_alloc_last w (.cells Z 26)
  have a2 := (Below.heap_alloc (w.alloc (.cells Z 26)) (.cells #[.int .i64 0] 27) w.heap.size (by rw [e1]; omega)).trans a1
  have a3 := (Below.heap_alloc ((w.alloc (.cells Z 26)).alloc (.cells #[.int .i64 0] 27)) (.cells Z 26) w.heap.size (by rw [e2]; omega)).trans a2
  have a4 := (Below.heap_alloc _ (.cells #[.int .i64 0] 3) w.heap.size (by rw [e3]; omega)).trans a3
  have b2 := heap_alloc_last (w.alloc (.cells Z 26)) (.cells #[.int .i64 0] 27)
  rw [e1] at b2
  have b3 := (Below.heap_alloc _ (.cells Z 26) (w.heap.size + 1) (by rw [e2]; omega)).trans b2
  have b4 := (Below.heap_alloc _ (.cells #[.int .i64 0] 3) (w.heap.size + 1) (by rw [e3]; omega)).trans b3
  have c3 := heap_alloc_last ((w.alloc (.cells Z 26)).alloc (.cells #[.int .i64 0] 27)) (.cells Z 26)
  rw [e2] at c3
  have c4 := (Below.heap_alloc _ (.cells #[.int .i64 0] 3) (w.heap.size + 2) (by rw [e3]; omega)).trans c3
  have d4 := heap_alloc_last (((w.alloc (.cells Z 26)).alloc (.cells #[.int .i64 0] 27)).alloc (.cells Z 26)) (.cells #[.int .i64 0] 3)
  rw [e3] at d4
  refine ⟨⟨a4, b4, row_of c4 (by rw [accP_zero]; exact hZ), ⟨_, d4, rfl, fun i hi => ?_⟩, by show 0 < 256; omega, ((((Below.refl w.heap.size w).alloc (Nat.le_refl _) _).alloc (by simp) _).alloc (by rw [e2]; omega) _).alloc (by rw [e3]; omega) _⟩, by simp [w']⟩
  obtain rfl : i = 0 := by omega
  rfl
set_option maxHeartbeats 4000000 in
set_option maxRecDepth 100000 in
theorem drawn_any (gf : Nat) (lb : Array Value) (cnt : Nat) (c : Nat → Nat) (w : World) (eg : ∀ args w, (callFunc gf args).run Tryd.prog w = .ok (.enter gf args) w) (hc : ∀ k, c k < 4096)
    (hseq : ∀ (W : World) (X : Nat → Prop), Below w.heap.size w W → (∀ k, X k → w.heap.size ≤ k ∧ k < W.heap.size + 2) → HandsN Tryd.prog gf lb cnt (fun k => #[.int .i64 (c k : Nat)]) X W) :
    Calls Tryd.prog 21 #[.func (.func gf) #[] lb] w (PolyErr (drawV c cnt) (drawE c cnt 51) w) := by
  obtain ⟨Z, hz, hZ⟩ := zero_poly
  have HZ := Lib.hid hZ; have HSEQ := Lib.hid hseq; have HC := Lib.hid hc; have EG := Lib.hid eg
  have HIB := Lib.hid (poly_sized hZ)
  clear hZ hseq hc eg
  refine callsIn_wide.1 (callsIn_of_wp_marks (n := 0) Tryd.func21 rfl trivial (wpIn_wide.2 ?_) rfl)
  simp only [Tryd.ntmps21, List.size_toArray, List.length_cons, List.length_nil, Nat.reduceAdd, Nat.reduceSub, Array.replicate_succ, Array.replicate_zero, List.push_toArray, List.append_toArray, List.nil_append, List.cons_append]
  go_wp2_with fail
  obtain ⟨k1, k2⟩ := draw_start w Z c HZ.out
  obtain ⟨w4, hw4⟩ : ∃ w4, (((w.alloc (.cells Z 26)).alloc (.cells #[.int .i64 0] 27)).alloc (.cells Z 26)).alloc (.cells #[.int .i64 0] 3) = w4 := ⟨_, rfl⟩
  rw [hw4] at k1 k2
  rw [hw4]
  have HI0 := Lib.hid k1; have K2 := Lib.hid k2
  clear k1 k2 hw4
  refine wpIn_wide.1 (wp_range_n (P := Tryd.prog) (gf := gf) (lb := lb) rfl EG.out
    (fun k => w.heap.size ≤ k ∧ k < w.heap.size + 4) (fun k e => by have := K2.out; omega)
    (HSEQ.out w4 _ HI0.out.below (fun k e => by have := K2.out; omega))
    (fun x => rfl) (DrawI w.heap.size Z c w) (fun x k W => x = .ret ∧ DrawX w.heap.size c w k W)
    (fun k A B h hk => by have := K2.out; exact h.kept hk (by omega) (by omega)) (fun x k A B h hk => by have := K2.out; exact ⟨h.1, h.2.kept hk (by omega) (by omega)⟩) HI0.out
    (fun k => { tmps := #[.func (.func gf) #[] lb, undef, .pointer (some ⟨w.heap.size, 0, none⟩), .pointer (some ⟨w.heap.size + 1, 0, none⟩), .pointer (some ⟨w.heap.size + 1 + 1, 0, none⟩), .pointer (some ⟨w.heap.size + 1 + 1 + 1, 0, none⟩), .int .i64 (c k : Nat), .func (.func gf) #[] lb, .int .i64 (c k : Nat), undef, undef, undef, undef, undef, undef, undef, undef, undef, undef, undef], defers := [] }) ?assign ?body ?done ?stop)
  case assign =>
    intro l x W K hK
    gi_wp2
    exact hK
  case body =>
    intro l k W hk hszW hI
    have HI := Lib.hid hI
    have c0 := hI.num.cell (i := 0) (by omega)
    have f0 := hI.num.frozen 0
    have hlt := hI.lt
    have c1 := hI.row.cell hlt
    have f1 := hI.row.frozen (acc c k).length
    have hx := HC.out k
    clear hI hk
    by_cases hck : c k < 3329
    · have HST := Lib.hid (fun (x y : Int) (hx : x = (c k : Int)) (hy : y = (((acc c k).length + 1 : Nat) : Int)) W2 hW2 => HI.out.yes hck (Nat.le_refl _) hx hy W2 hW2)
      have HLY := Lib.hid (acc_len_yes hck)
      obtain ⟨x, hx0⟩ : ∃ x, c k = x := ⟨_, rfl⟩
      rw [hx0] at hx hck
      rw [hx0]
      obtain ⟨n, hn⟩ : ∃ n, (acc c k).length = n := ⟨_, rfl⟩
      rw [hn] at c0 c1 f1 hlt
      have HX := Lib.hid hx0; have HN := Lib.hid hn
      clear hx0 hn
      have h3 : ¬ (3329 : Int) ≤ (x : Int) := by omega
      have h3d : decide ((3329 : Int) ≤ (x : Int)) = false := decide_eq_false h3
      by_cases hen : n + 1 = 256
      · have h4 : ((n : Int) + 1 == 256) = true := by rw [beq_iff_eq]; omega
        have h5 : (n : Int) + 1 = 256 := by omega
        gi_wp2_with fail
        obtain ⟨W2, hW2⟩ : ∃ W2, (W.setCell ⟨w.heap.size + 1 + 1, n, none⟩ (.int .i64 x)).setCell ⟨w.heap.size + 1 + 1 + 1, 0, none⟩ (.int .i64 256) = W2 := ⟨_, rfl⟩
        obtain ⟨q1, q2, q3, -, q5, q6⟩ := HST.out (x : Int) 256 (by rw [HX.out]) (by rw [HN.out]; omega) W2 (by rw [HN.out]; exact hW2)
        rw [hW2]
        obtain ⟨ds, hds, hD⟩ := of_row q3
        have HI2 := Lib.hid (poly_sized hD); have HD := Lib.hid hD; have HM := Lib.hid (show Z.size = ds.size by rw [HZ.out.1, hD.1])
        have e1 : (W2.setRow w.heap.size ds).rowIs (w.heap.size + 1) 27 1 (fun _ => .int .i64 0) := ⟨_, (setRow_other W2 w.heap.size (w.heap.size + 1) ds (by omega)).trans q2, rfl, fun i hi => by obtain rfl : i = 0 := (by omega); rfl⟩
        have c2 := e1.cell (i := 0) (by omega)
        have f2 := e1.frozen 0
        have HE1 := Lib.hid e1
        have HQ1 := Lib.hid q1; have HDS := Lib.hid hds; have Q5 := Lib.hid q5; have Q6 := Lib.hid q6
        clear hW2 q1 q2 q3 q5 q6 hds hD e1 c0 c1 f0 f1
        refine op_in (plain_round _ l) (fun c e => by cases e) (wp_load_row 26 (.tmp 4) rfl (w.heap.size + 1 + 1) rfl 26 ds (0, 0) _ HDS.out Tryd.underlying26 rfl HI2.out ?_)
        rename_i K hK
        refine hK _ _ ?_
        clear hK K
        gi_wp2_with (refine wpListIn_store_whole (plain_round _ l) rfl 26 (.tmp 2) (.tmp 18) rfl w.heap.size ds rfl rfl 26 Z HQ1.out HI2.out HM.out HD.out.cells ?_)
        refine ⟨?_, rfl, ⟨ds, ?_, HD.out⟩, ?_, by rw [HLY.out, HN.out]; omega, ?_⟩
        · exact (Q6.out.mono fun i h => by omega).trans ((Kept.setRow W2 w.heap.size ds (by omega)).trans (Kept.set _ ⟨w.heap.size + 1, 0, none⟩ _ (by show w.heap.size ≤ w.heap.size + 1 ∧ w.heap.size + 1 < w.heap.size + 4; omega)))
        · exact (Below.heap_setCell _ ⟨w.heap.size + 1, 0, none⟩ _ _ (by show w.heap.size ≠ w.heap.size + 1; omega)).trans (setRow_heap W2 w.heap.size _ ds 26 _ HQ1.out)
        · refine (HE1.out.set 0 _).congr fun i hi => ?_
          obtain rfl : i = 0 := by omega
          rfl
        · exact (below_setRow Q5.out (Nat.le_refl _) ds).setCell (p := ⟨w.heap.size + 1, 0, none⟩) (by show w.heap.size ≤ w.heap.size + 1; omega) _
      · have h4 : ((n : Int) + 1 == 256) = false := by rw [beq_eq_false_iff_ne]; omega
        have h5 : ¬ (n : Int) + 1 = 256 := by omega
        gi_wp2
        obtain ⟨q1, q2, q3, q4, q5, q6⟩ := HST.out (x : Int) ((n : Int) + 1) (by rw [HX.out]) (by rw [HN.out]; omega) _ rfl
        rw [HN.out] at q1 q2 q3 q4 q5 q6
        exact ⟨q6.mono fun i h => by omega, ⟨q1, q2, q3, q4, by rw [HLY.out, HN.out]; omega, q5⟩⟩
    · have HNO := Lib.hid (HI.out.no hck)
      obtain ⟨x, hx0⟩ : ∃ x, c k = x := ⟨_, rfl⟩
      rw [hx0] at hx hck
      rw [hx0]
      clear hx0 c0 c1 f0 f1
      have h3 : (3329 : Int) ≤ (x : Int) := by omega
      have h3d : decide ((3329 : Int) ≤ (x : Int)) = true := decide_eq_true h3
      gi_wp2
      exact ⟨Kept.refl _ _, HNO.out⟩
  case done =>
    intro W hI hD
    have HNO := Lib.hid (draw_no hI.lt 51)
    have e1 : (W.setRow w.heap.size Z).rowIs (w.heap.size + 1) 27 1 (fun _ => .int .i64 0) := ⟨_, (setRow_other W w.heap.size (w.heap.size + 1) Z (by omega)).trans hI.err, rfl, fun i hi => by obtain rfl : i = 0 := (by omega); rfl⟩
    have c2 := e1.cell (i := 0) (by omega)
    have f2 := e1.frozen 0
    have HE1 := Lib.hid e1; have HI := Lib.hid hI; have HD := Lib.hid hD
    clear e1 hI hD
    rename_i K hK
    refine hK _ _ ?_
    clear hK K
    go_wp2_with (refine wpList_store_row rfl 26 (.tmp 2) (.tmp 19) rfl w.heap.size Z rfl rfl 26 Z HI.out.res HIB.out rfl HZ.out.cells ?_)
    obtain ⟨W3, hW3⟩ : ∃ W3, (W.setRow w.heap.size Z).setCell ⟨w.heap.size + 1, 0, none⟩ (.int .i64 51) = W3 := ⟨_, rfl⟩
    have hr3 : W3.heap[w.heap.size]? = some (.cells Z 26 (0, 0)) := by rw [← hW3]; exact (Below.heap_setCell _ ⟨w.heap.size + 1, 0, none⟩ _ _ (by show w.heap.size ≠ w.heap.size + 1; omega)).trans (setRow_heap W w.heap.size _ Z 26 _ HI.out.res)
    have he3 : W3.rowIs (w.heap.size + 1) 27 1 (fun _ => .int .i64 51) := by rw [← hW3]; exact (HE1.out.set 0 _).congr fun i hi => by obtain rfl : i = 0 := (by omega); rfl
    have hN : w4.heap.size ≠ w.heap.size := by have := K2.out; omega
    have hN1 : w4.heap.size ≠ w.heap.size + 1 := by have := K2.out; omega
    have hd3 : W3.heap[w4.heap.size]? = some (.deferred (some [])) := by rw [← hW3]; exact (Below.heap_setCell _ ⟨w.heap.size + 1, 0, none⟩ _ _ hN1).trans ((setRow_other W w.heap.size w4.heap.size Z hN).trans HD.out)
    have hb3 : Below w.heap.size w W3 := by rw [← hW3]; exact (below_setRow HI.out.below (Nat.le_refl _) Z).setCell (p := ⟨w.heap.size + 1, 0, none⟩) (by show w.heap.size ≤ w.heap.size + 1; omega) _
    rw [hW3]
    clear hW3 HE1 c2 f2
    refine ⟨by simp, .inl ⟨_, _, rfl, run_takeDeferred hd3, ?_⟩⟩
    have hr4 : (W3.putObj w4.heap.size (.deferred none)).heap[w.heap.size]? = some (.cells Z 26 (0, 0)) := (World.putObj_heap_other (fun e => hN e.symm)).trans hr3
    have he4 := (he3.of_block (w' := W3.putObj w4.heap.size (.deferred none)) (World.putObj_heap_other (fun e => hN1 e.symm))).cell (i := 0) (by omega)
    refine ⟨_, results_row_cell (p := 2) (u := 3) (ty := 26) (tu := 27) (by kernel_rfl) _ _ w.heap.size (w.heap.size + 1) 26 Z (0, 0) _ _ rfl rfl hr4 he4 Tryd.underlying26 rfl HIB.out (by kernel_rfl), ?_⟩
    exact ⟨Z, by rw [HNO.out.2], by rw [HNO.out.1]; exact HZ.out, hb3.grown (grownBy_putObj' _ w4.heap.size (.deferred none)) hb3.size (fun k e => by cases e; have := K2.out; omega)⟩
  case stop =>
    intro x k W hk h hD
    obtain ⟨rfl, hX⟩ := h
    obtain ⟨⟨ds, h1, h2⟩, h3, h4, h5⟩ := hX
    rw [drawE_yes hk h4 51]
    have HV : Hid (∀ i, i < 256 → drawV c cnt i = accP c k i) := Lib.hid fun i hi => drawV_yes hk h4 hi
    have hN : w4.heap.size ≠ w.heap.size := by have := K2.out; omega
    have hN1 : w4.heap.size ≠ w.heap.size + 1 := by have := K2.out; omega
    gi_wp2
    refine ⟨by simp, .inl ⟨_, _, rfl, run_takeDeferred hD, ?_⟩⟩
    have hr4 : (W.putObj w4.heap.size (.deferred none)).heap[w.heap.size]? = some (.cells ds 26 (0, 0)) := (World.putObj_heap_other (fun e => hN e.symm)).trans h1
    have he4 := (h3.of_block (w' := W.putObj w4.heap.size (.deferred none)) (World.putObj_heap_other (fun e => hN1 e.symm))).cell (i := 0) (by omega)
    refine ⟨_, results_row_cell (p := 2) (u := 3) (ty := 26) (tu := 27) (by kernel_rfl) _ _ w.heap.size (w.heap.size + 1) 26 ds (0, 0) _ _ rfl rfl hr4 he4 Tryd.underlying26 rfl (poly_sized h2) (by kernel_rfl), ?_⟩
    exact ⟨ds, rfl, h2.congr fun i hi => (HV.out i hi).symm, h5.grown (grownBy_putObj' _ w4.heap.size (.deferred none)) h5.size (fun k e => by cases e; have := K2.out; omega)⟩
end Go.Proofs.YtdkhiooiakdecaaDoorR.Kp
