/- Walks: takeKept's closure, slices.IndexFunc, slices.Delete. Written by tools/mk_rawalkg.py. -/
import Derived.Test.YtkplkfokpniflaaDoorRaWalkF
import Derived.Laws.CopyRow
namespace Go.Proofs.YtkplkfokpniflaaDoor.Ra
set_option linter.all false
open Go.RowKit
open Wr (Txt Any New bcells gt)

set_option maxHeartbeats 1000000 in
theorem takeKept1_is (q : KdQ) (b : Nat) (gen : Int) (w : World) (hb : w.cell? ⟨b, 0, none⟩ = some (.int .i64 gen)) :
    Calls Tryd.prog 42 #[.agg q.cs, .pointer (some ⟨b, 0, none⟩)] w fun e w' => e = .returned (.bool (q.g == gen)) ∧ Below w.heap.size w w' := by
  obtain ⟨g, A, n, c⟩ := q
  dsimp only [KdQ.cs]
  have hlt := block_lt_of_cell hb
  have hc : (w.alloc (.cells #[.int .i64 g, .slice A n c] 44)).cell? ⟨b, 0, none⟩ = some (.int .i64 gen) := by rw [World.cell?_alloc_lt _ _ _ hlt]; exact hb
  have hB := (Below.refl w.heap.size w).alloc (Nat.le_refl _) (.cells #[.int .i64 g, .slice A n c] 44)
  have k := KdB.new ⟨g, A, n, c⟩ w
  obtain ⟨W, hW⟩ : ∃ W, w.alloc (.cells #[.int .i64 g, .slice A n c] 44) = W := ⟨_, rfl⟩
  dsimp only [KdQ.cs] at k
  rw [hW] at hc hB k
  obtain ⟨c0, c1⟩ := k.cs
  dsimp only at c0 c1
  have HB := Lib.hid hB
  clear hB k hb
  go_enter Tryd.func42, Tryd.ntmps42
  go_wp2
  go_ret
  exact ⟨rfl, HB.out⟩

set_option maxHeartbeats 2000000 in
set_option maxRecDepth 100000 in
theorem indexFunc_is (K : Option Addr) (n c : Nat) (ks : List Kd) (b : Nat) (gen : Int) (z : Int) (w : World) (hK : Kds Any w K n c ks) (hb : w.cell? ⟨b, 0, none⟩ = some (.int .i64 gen)) (hz : (match at' gen ks with | none => -1 | some i => (i : Int)) = z) :
    Calls Tryd.prog 41 #[.slice K n c, .func (.func 42) #[] #[.pointer (some ⟨b, 0, none⟩)]] w fun e w' => e = .returned (.int .i64 z) ∧ Below w.heap.size w w' := by
  have HK := Lib.hid hK; have HZ := Lib.hid hz; have HB := Lib.hid hb; have HLT := Lib.hid (block_lt_of_cell hb)
  have hn63 : n ≤ 9223372036854775807 := by have h1 := hK.2.1; have h2 := hK.2.2.1; omega
  clear hK hz hb
  go_enter Tryd.func41, Tryd.ntmps41
  go_wp2_with fail
  go_loopw [8] (fun v W => ∃ k : Nat, k ≤ n ∧ v = .int .i64 k ∧ Hid (∀ j, j < k → (kd ks j).g ≠ gen) ∧ Hid (Below w.heap.size w W)) (fun v _ => n - (intOf v).toNat)
  case atStart => exact ⟨0, by omega, rfl, Lib.hid fun j h => absurd h (by omega), Lib.hid (Below.refl _ _)⟩
  case round =>
    obtain ⟨k, hk, rfl, HE, HW⟩ := hrel
    by_cases hkn : k < n
    case neg =>
      have yk : ¬ (k : Int) < (n : Int) := by omega
      have HF : Hid ((-1 : Int) = z) := Lib.hid (by rw [← HZ.out, at_not fun j hj => HE.out j (by rw [HK.out.len] at hj; omega)])
      go_wp2
      go_ret
      exact ⟨by rw [← HF.out]; rfl, HW.out⟩
    have yk : (k : Int) < (n : Int) := by omega
    obtain ⟨ad, rfl⟩ := HK.out.some (by omega)
    obtain ⟨⟨g, A, m, cc⟩, hat, his⟩ := (HK.out.below HW.out).at k hkn
    obtain ⟨c0, c1⟩ := hat.cells
    dsimp only at c0 c1
    have CI := Lib.hid (takeKept1_is ⟨g, A, m, cc⟩ b gen wr (by rw [World.cell?_of_block (HW.out.block b HLT.out)]; exact HB.out))
    have HG := Lib.hid (show g = (kd ks k).g from his.g)
    clear hat his
    by_cases h1 : g = gen
    · have y1 : (g == gen) = true := by simp [h1]
      have HF : Hid ((k : Int) = z) := Lib.hid (by rw [← HZ.out, at_is (i := k) (by rw [HK.out.len]; exact hkn) (by rw [← HG.out]; exact h1) HE.out])
      dsimp only [KdQ.cs] at CI
      rw [y1] at CI
      clear h1 y1
      go_wp2_with (first | (go_at_call 42; refine CI.out.mono ?_; rintro e' w2 ⟨rfl, hb⟩; have HW2 := Lib.hid (HW.out.trans (hb.mono HW.out.size)); clear hb) | go_in)
      go_ret
      exact ⟨by rw [← HF.out]; rfl, HW2.out⟩
    · have y1 : (g == gen) = false := by simp [h1]
      have HE' : Hid (∀ j, j < k + 1 → (kd ks j).g ≠ gen) := Lib.hid fun j hj => by
        by_cases e : j = k
        · subst e; rw [← HG.out]; exact h1
        · exact HE.out j (by omega)
      dsimp only [KdQ.cs] at CI
      rw [y1] at CI
      clear h1 y1 HE
      go_wp2_with (first | (go_at_call 42; refine CI.out.mono ?_; rintro e' w2 ⟨rfl, hb⟩; have HW2 := Lib.hid (HW.out.trans (hb.mono HW.out.size)); clear hb) | go_in)
      go_roundw
      case rel => exact ⟨k + 1, by omega, by go_num, HE', HW2⟩
      case measure => simp [intOf]; omega

/-- what is moved to the left, within a row -/
theorem run_shift {w : World} (ty : TypeId) (gb n c i : Nat) (cur : Array Value) (hg : w.heap[gb]? = some (.cells cur 44 (0, 0))) (hc : cur.size = c * 2) (hi : i < n) (hn : n ≤ c) (h1 : ∀ u ∈ cur.toList.take (n * 2), u.oneCell' = true) (ad : Addr) (cc : Nat) (ha : n = i + 1 ∨ ad = ⟨gb, (i + 1) * 2, none⟩) :
    (Builtin.append_ #[23, 23] ty #[.slice (some ⟨gb, 0, none⟩) i c, .slice (some ad) (n - (i + 1)) cc]).run Tryd.prog w =
      .ok (.slice (some ⟨gb, 0, none⟩) (n - 1) c) (w.setRow gb (cur.toList.take (i * 2) ++ (cur.toList.take (n * 2)).drop ((i + 1) * 2) ++ cur.toList.drop ((n - 1) * 2)).toArray) := by
  obtain ⟨inf, hin, _, hsz, _⟩ := kInfo
  have hl : ((cur.toList.take (n * 2)).drop ((i + 1) * 2)).length = (n - (i + 1)) * 2 := by
    rw [List.length_drop, List.length_take, Array.length_toList, hc, Nat.min_eq_left (by omega)]; omega
  have hnews : ∀ j u, ((cur.toList.take (n * 2)).drop ((i + 1) * 2))[j]? = some u → w.cell? (ad.add j) = some u := by
    intro j u hu
    rcases ha with ha | ha
    · exfalso
      rw [List.drop_of_length_le (by rw [List.length_take, Array.length_toList, hc]; omega)] at hu
      simp at hu
    · subst ha
      rw [Addr.add_lit]
      have hj : j < (n - (i + 1)) * 2 := by
        rcases Nat.lt_or_ge j ((n - (i + 1)) * 2) with h | h
        · exact h
        · rw [List.getElem?_eq_none (by rw [hl]; exact h)] at hu; cases hu
      rw [List.getElem?_drop, List.getElem?_take_of_lt (by omega), Array.getElem?_toList] at hu
      rw [cell_of_row w gb _ _ _ _ hg]; exact hu
  have hfc := run_firstCells_some (P := Tryd.prog) w 2 (n - (i + 1)) ad (n - (i + 1)) cc _ hl hnews
  have hst := run_storeCells_at Tryd.prog gb (i * 2) 44 ((cur.toList.take (n * 2)).drop ((i + 1) * 2)) 0 cur w hg (by rw [hl, hc]; omega) (fun u hu => h1 u (List.mem_of_mem_drop hu))
  simp only [Nat.add_zero] at hst
  rw [hl, show i * 2 + (n - (i + 1)) * 2 = (n - 1) * 2 by omega] at hst
  have hroom : i + (n - (i + 1)) ≤ c := by omega
  have he : i + (n - (i + 1)) = n - 1 := by omega
  simp [Builtin.append_, run_underlying Tryd.underlying23, sizeOf, typeInfo, hin, hsz, Builtin.lenOf, hfc, Addr.add_lit]
  rw [if_pos hroom, hst, he]
  simp [Result.andThen]
theorem wp_append_run {o : Oper} {a : Act} {w : World} {K : Act → World → Prop} {Q : Exit → Act → World → Prop} (s x : Operand)
    (ho : o.op = .call { callee := .builtin .append, args := #[s, x], argTypes := #[23, 23] }) (vs vx v' : Value) (w' : World) (hs : a.eval s = vs) (hx : a.eval x = vx)
    (hrun : (Builtin.append_ #[23, 23] o.type #[vs, vx]).run Tryd.prog w = .ok v' w') (k : K (a.put o.dst v') w') : Oper.wp Tryd.prog o a w K Q := by
  unfold Oper.wp execOp
  simp only [ho, resolve, invoke, builtin, Sem.run_bind, Sem.run_pure, Result.andThen_ok, List.map_toArray, List.map_cons, List.map_nil, hs, hx, hrun]
  exact k
theorem wp_clear_run {o : Oper} {a : Act} {w : World} {K : Act → World → Prop} {Q : Exit → Act → World → Prop} (s : Operand)
    (ho : o.op = .call { callee := .builtin .clear, args := #[s], argTypes := #[23] }) (vs v' : Value) (w' : World) (hs : a.eval s = vs)
    (hrun : (Builtin.clear_ #[23] o.type #[vs]).run Tryd.prog w = .ok v' w') (k : K (a.put o.dst v') w') : Oper.wp Tryd.prog o a w K Q := by
  unfold Oper.wp execOp
  simp only [ho, resolve, invoke, builtin, Sem.run_bind, Sem.run_pure, Result.andThen_ok, List.map_toArray, List.map_cons, List.map_nil, hs, hrun]
  exact k
theorem run_clear_one {w : World} (ty : TypeId) (gb o cc : Nat) (cur : Array Value) (hg : w.heap[gb]? = some (.cells cur 44 (0, 0))) (ho : o + 2 ≤ cur.size) :
    (Builtin.clear_ #[23] ty #[.slice (some ⟨gb, o, none⟩) 1 cc]).run Tryd.prog w = .ok (.tuple #[]) (w.setRow gb (cur.toList.take o ++ zQ.cs.toList ++ cur.toList.drop (o + 2)).toArray) := by
  obtain ⟨inf, hin, hz, hsz, _⟩ := kInfo
  have hst := run_storeCells_at Tryd.prog gb o 44 zQ.cs.toList 0 cur w hg (by rw [cs_len]; omega) (by intro v hv; simp [KdQ.cs, zQ] at hv; rcases hv with rfl | rfl <;> rfl)
  simp only [Nat.add_zero, cs_len] at hst
  have hzc : (Builtin.zeroCells (Value.agg zQ.cs).cells 1).toList = zQ.cs.toList := by kernel_rfl
  simp [Builtin.clear_, run_underlying Tryd.underlying23, zeroValue, typeInfo, hin, hz, hzc, hst]
theorem kd_erase (ks : List Kd) (i j : Nat) : kd (ks.eraseIdx i) j = if j < i then kd ks j else kd ks (j + 1) := by
  unfold kd
  simp only [List.getD_eq_getElem?_getD, List.getElem?_eraseIdx]
  split <;> rfl

set_option maxHeartbeats 4000000 in
set_option maxRecDepth 100000 in
theorem delete_is (S : Nat → Prop) (base gb n c i jj : Nat) (ks : List Kd) (w : World) (hO : OwnK S base w (.slice (some ⟨gb, 0, none⟩) n c) n ks) (hi : i < n) (hj : jj = i + 1) :
    Calls Tryd.prog 43 #[.slice (some ⟨gb, 0, none⟩) n c, .int .i64 i, .int .i64 jj] w fun e w' => e = .returned (.slice (some ⟨gb, 0, none⟩) (n - 1) c) ∧ OwnK S base w' (.slice (some ⟨gb, 0, none⟩) (n - 1) c) (n - 1) (ks.eraseIdx i) ∧ w.grownBy w' (some gb) := by
  have hO' := hO
  obtain ⟨h0, h9, qs, h1, h2, h3⟩ := hO
  rcases h2.2 with ⟨e, _⟩ | ⟨g', c', cur, e, hb, hcc, a1, a2, a3, a4⟩
  · cases e
  injection e with e1 e2 e3
  have e5 : g' = gb := by injection e1 with e1; injection e1 with e1; exact e1.symm
  subst e5 e3
  obtain ⟨nm, hnm⟩ : ∃ nm, n = nm + 1 := ⟨n - 1, by omega⟩
  have hn1 : n - 1 = nm := by omega
  have hnn : n - nm = 1 := by omega
  rw [hn1]
  have hc9 : c ≤ 9223372036854775807 := by unfold maxLen at a2; omega
  have hoc : ∀ u ∈ cur.toList.take (n * 2), u.oneCell' = true := by rw [a4]; exact flat_one qs
  obtain ⟨cur1, hcur1⟩ : ∃ x, (cur.toList.take (i * 2) ++ (cur.toList.take (n * 2)).drop ((i + 1) * 2) ++ cur.toList.drop ((n - 1) * 2)).toArray = x := ⟨_, rfl⟩
  have hs1 : cur1.size = c * 2 := by
    rw [← hcur1]
    simp only [List.size_toArray, List.length_append, List.length_take, List.length_drop, Array.length_toList, a3]
    omega
  obtain ⟨ad, hsl, had⟩ : ∃ ad : Addr, (∀ W : World, (Instr.slice 23 (.slice (some ⟨g', 0, none⟩) n c) (some (.int .i64 (jj : Int))) none none).run Tryd.prog W = .ok (.slice (some ad) (n - jj) (c - jj)) W) ∧ (n = i + 1 ∨ ad = ⟨g', (i + 1) * 2, none⟩) := by
    obtain ⟨inf, hin, _, hsz, _⟩ := kInfo
    have ht : Tryd.prog.underlying 23 = some (.slice (Tryd.prog.elem 23)) := by kernel_rfl
    have he : Tryd.prog.elem 23 = 44 := by kernel_rfl
    by_cases hcj : c = jj
    · refine ⟨⟨g', 0, none⟩, fun W => ?_, .inl (by omega)⟩
      rw [run_slice_l (a := some ⟨g', 0, none⟩) (len := n) (cap := c) (w := W) (t := 23) (ht := ht) .i64 (jj : Int) (by omega) (by omega), he]
      simp [sizeOf, typeInfo, hin, sliced, hcj]
    · refine ⟨⟨g', (i + 1) * 2, none⟩, fun W => ?_, .inr rfl⟩
      rw [run_slice_l (a := some ⟨g', 0, none⟩) (len := n) (cap := c) (w := W) (t := 23) (ht := ht) .i64 (jj : Int) (by omega) (by omega), he]
      have hcj' : ¬ c = i + 1 := by omega
      simp [sizeOf, typeInfo, hin, sliced, hcj', hsz, hj, Addr.add_lit]
  have HA : Hid (∀ W : World, W.heap[g']? = some (.cells cur 44 (0, 0)) → ∀ ty, (Builtin.append_ #[23, 23] ty #[.slice (some ⟨g', 0, none⟩) i c, .slice (some ad) (n - jj) (c - jj)]).run Tryd.prog W = .ok (.slice (some ⟨g', 0, none⟩) nm c) (W.setRow g' cur1)) := Lib.hid fun W hg ty => by
    have h := run_shift (w := W) ty g' n c i cur hg a3 hi a1 hoc ad (c - (i + 1)) had
    rw [hj, h, hcur1, hn1]
  obtain ⟨cur2, hcur2⟩ : ∃ x, (cur1.toList.take (nm * 2) ++ zQ.cs.toList ++ cur1.toList.drop (nm * 2 + 2)).toArray = x := ⟨_, rfl⟩
  have HC : Hid (∀ W : World, W.heap[g']? = some (.cells cur1 44 (0, 0)) → ∀ ty, (Builtin.clear_ #[23] ty #[.slice (some ⟨g', nm * 2, none⟩) 1 (c - nm)]).run Tryd.prog W = .ok (.tuple #[]) (W.setRow g' cur2)) := Lib.hid fun W hg ty => by
    rw [run_clear_one ty g' (nm * 2) (c - nm) cur1 hg (by rw [hs1]; omega), hcur2]
  have HF : Hid (cur2.size = c * 2 ∧ cur2.toList.take (nm * 2) = flat (qs.eraseIdx i)) := Lib.hid (by
    rw [← hcur2]
    refine ⟨?_, ?_⟩
    · simp only [List.size_toArray, List.length_append, List.length_take, List.length_drop, Array.length_toList, hs1, List.length_cons, List.length_nil]
      omega
    · have hl1 : (cur1.toList.take (nm * 2)).length = nm * 2 := by rw [List.length_take, Array.length_toList, hs1]; omega
      rw [List.append_assoc]
      show List.take (nm * 2) (List.take (nm * 2) cur1.toList ++ _) = _
      rw [List.take_append, List.take_of_length_le (by omega), hl1, Nat.sub_self, List.take_zero, List.append_nil, ← hcur1]
      show List.take (nm * 2) (List.take (i * 2) cur.toList ++ _ ++ _) = _
      have hl2 : (List.take (i * 2) cur.toList ++ (cur.toList.take (n * 2)).drop ((i + 1) * 2)).length = nm * 2 := by
        rw [List.length_append, List.length_take, List.length_drop, List.length_take, Array.length_toList, a3]; omega
      rw [List.take_append, List.take_of_length_le (by omega), hl2, Nat.sub_self, List.take_zero, List.append_nil, a4, flat_drop, List.eraseIdx_eq_take_drop_succ, flat_append, ← flat_take, ← a4, List.take_take, Nat.min_eq_left (by omega)])
  have HGd : Hid (w.drew.heap[g']? = some (.cells cur 44 (0, 0))) := Lib.hid hcc
  have HBd : Hid (w.grownBy w.drew (some g')) := Lib.hid ⟨rfl, rfl, rfl, Nat.le_refl _, fun _ _ _ => rfl⟩
  have yij : ((i : Int) == (jj : Int)) = false := by rw [beq_eq_false_iff_ne]; omega
  have hij : i ≤ jj := by omega
  have hjn : jj ≤ n := by omega
  have hic : i ≤ c := by omega
  have hjc : jj ≤ c := by omega
  have ycm : ¬ c = nm := by omega
  have hmn : nm ≤ n := by omega
  have hni : ¬ n = i := by omega
  have HO := Lib.hid hO'
  have HI := Lib.hid (show i < n ∧ n = nm + 1 from ⟨hi, hnm⟩)
  have HQ := Lib.hid (show qs.length = n from h1)
  have H3 := Lib.hid h3; have H9 := Lib.hid h9; have H0 := Lib.hid h0; have HBA := Lib.hid (And.intro hb a2)
  clear hO' h0 h9 h1 h2 h3 hb hcc a2 a3 a4 hoc hcur1 hs1 had hcur2 hnm hn1 hi hj
  have had := Lib.hid hsl
  go_enter Tryd.func43, Tryd.ntmps43
  go_wp2_with fail
  try simp only [Act.put]
  refine Wr.region_calm ?_
  refine wp_region_any (by kernel_rfl) ?_
  change wpAny _ _ _ _ _ _ _ (World.drew w)
  generalize World.drew w = wd at *
  refine wpAny_of_held (S := fun _ => True) _ _ _ _ ?_
  refine wpAnyH_take (i := 0) (v := ?ve1) rfl (by kernel_rfl) (by kernel_rfl) (by kernel_rfl) (fun _ _ _ h => h) (Or.inl ⟨by rfl, ?ye1⟩) trivial ?re1
  case ye1 => (intro w' hSw; clear hSw; go_simp; try with_reducible rfl)
  simp only [List.getElem_toArray, List.getElem_cons_succ, List.getElem_cons_zero, Act.put, List.setIfInBounds_toArray, List.set_cons_zero, List.set_cons_succ]
  refine wpAnyH_take (i := 1) (v := ?ve2) rfl (by kernel_rfl) (by kernel_rfl) (by kernel_rfl) (fun _ _ _ h => h) (Or.inl ⟨by rfl, ?ye2⟩) trivial ?re2
  case ye2 => (intro w' hSw; clear hSw; go_simp; try with_reducible rfl)
  simp only [List.getElem_toArray, List.getElem_cons_succ, List.getElem_cons_zero, Act.put, List.setIfInBounds_toArray, List.set_cons_zero, List.set_cons_succ]
  refine wpAnyH_take (i := 2) (v := ?ve3) rfl (by kernel_rfl) (by kernel_rfl) (by kernel_rfl) (fun _ _ _ h => h) (Or.inl ⟨by rfl, ?ye3⟩) trivial ?re3
  case ye3 => (intro w' hSw; clear hSw; go_simp; try with_reducible rfl)
  simp only [List.getElem_toArray, List.getElem_cons_succ, List.getElem_cons_zero, Act.put, List.setIfInBounds_toArray, List.set_cons_zero, List.set_cons_succ]
  refine wpAnyH_take (i := 3) (v := ?ve4) rfl (by kernel_rfl) (by kernel_rfl) (by kernel_rfl) (fun _ _ _ h => h) (Or.inl ⟨by rfl, ?ye4⟩) trivial ?re4
  case ye4 => (intro w' hSw; clear hSw; go_simp; try with_reducible rfl)
  simp only [List.getElem_toArray, List.getElem_cons_succ, List.getElem_cons_zero, Act.put, List.setIfInBounds_toArray, List.set_cons_zero, List.set_cons_succ]
  refine wpAnyH_take (i := 4) (v := ?ve5) rfl (by kernel_rfl) (by kernel_rfl) (by kernel_rfl) (fun _ _ _ h => h) (Or.inl ⟨by rfl, ?ye5⟩) trivial ?re5
  case ye5 => (intro w' hSw; clear hSw; go_simp; try with_reducible rfl)
  simp only [List.getElem_toArray, List.getElem_cons_succ, List.getElem_cons_zero, Act.put, List.setIfInBounds_toArray, List.set_cons_zero, List.set_cons_succ]
  refine wpAnyH_take (i := 5) (v := ?ve6) rfl (by kernel_rfl) (by kernel_rfl) (by kernel_rfl) (fun _ _ _ h => h) (Or.inl ⟨by rfl, ?ye6⟩) trivial ?re6
  case ye6 => (intro w' hSw; clear hSw; go_simp; try with_reducible rfl)
  simp only [List.getElem_toArray, List.getElem_cons_succ, List.getElem_cons_zero, Act.put, List.setIfInBounds_toArray, List.set_cons_zero, List.set_cons_succ]
  refine wpAnyH_ready (rs := [6]) (by kernel_rfl) (by simp) ?_
  refine (AllReadyH.cons rfl (fun K' hK => ?_) AllReadyH.nil)
  simp only [List.getElem_toArray, List.getElem_cons_succ, List.getElem_cons_zero]
  rw [if_pos (by rfl)]
  refine wp_append_run (.tmp 22) (.tmp 25) rfl _ _ _ _ rfl rfl (HA.out wd HGd.out _) ?_
  have HG1 : Hid ((wd.setRow g' cur1).heap[g']? = some (.cells cur1 44 (0, 0))) := Lib.hid (setRow_heap wd g' _ _ _ _ HGd.out)
  have HR1 : Hid (wd.grownBy (wd.setRow g' cur1) (some g')) := Lib.hid ⟨rfl, rfl, rfl, by simp [World.setRow], fun i hi hn => setRow_other wd _ i _ (by intro e; exact hn (by rw [e]))⟩
  obtain ⟨w1, hw1⟩ : ∃ W, wd.setRow g' cur1 = W := ⟨_, rfl⟩
  rw [hw1] at HG1 HR1
  try rw [hw1]
  refine hK.out _ _ trivial (fun _ => ?_)
  clear hK
  try simp only [List.getElem_toArray, List.getElem_cons_succ, List.getElem_cons_zero, Act.put, List.setIfInBounds_toArray, List.set_cons_zero, List.set_cons_succ]
  refine wpAnyH_take (i := 7) (v := ?ve7) rfl (by kernel_rfl) (by kernel_rfl) (by kernel_rfl) (fun _ _ _ h => h) (Or.inl ⟨by rfl, ?ye7⟩) trivial ?re7
  case ye7 => (intro w' hSw; clear hSw; go_simp; try with_reducible rfl)
  simp only [List.getElem_toArray, List.getElem_cons_succ, List.getElem_cons_zero, Act.put, List.setIfInBounds_toArray, List.set_cons_zero, List.set_cons_succ]
  refine wpAnyH_done (by kernel_rfl) ?_ _
  change Exit.then _ _ Exit.normal _ _
  have hcl := HC.out w1 HG1.out
  have HG2 : Hid ((w1.setRow g' cur2).heap[g']? = some (.cells cur2 44 (0, 0))) := Lib.hid (setRow_heap w1 g' _ _ _ _ HG1.out)
  have HR2 : Hid (w.grownBy (w1.setRow g' cur2) (some g')) := Lib.hid ⟨HR1.out.os.trans HBd.out.os, HR1.out.tape.trans HBd.out.tape, HR1.out.output.trans HBd.out.output, by simpa [World.setRow] using Nat.le_trans HBd.out.size HR1.out.size, fun i hi hn => (setRow_other w1 _ i _ (by intro e; exact hn (by rw [e]))).trans ((HR1.out.block i (Nat.lt_of_lt_of_le hi HBd.out.size) hn).trans (HBd.out.block i hi hn))⟩
  obtain ⟨w2, hw2⟩ : ∃ W, w1.setRow g' cur2 = W := ⟨_, rfl⟩
  rw [hw2] at hcl HG2 HR2
  clear hw1 hw2
  go_wp2
  go_ret
  have hI := HI.out
  have hb := HBA.out
  refine ⟨rfl, ⟨by rw [List.length_eraseIdx_of_lt (by rw [H0.out]; omega), H0.out]; omega, fun g e => H9.out g e, qs.eraseIdx i, by rw [List.length_eraseIdx_of_lt (by rw [HQ.out]; omega), HQ.out]; omega, ⟨?_, .inr ⟨g', c, cur2, rfl, hb.1, HG2.out, by omega, hb.2, HF.out.1, HF.out.2⟩⟩, fun j q hq => ?_⟩, HR2.out⟩
  · rw [flat_len, List.length_eraseIdx_of_lt (by rw [HQ.out]; omega), HQ.out]; omega
  · rw [kd_erase]
    rw [List.getElem?_eraseIdx] at hq
    have go : ∀ k, qs[k]? = some q → KdIs S w2 q (kd ks k) ∧ Far (Value.slice (some ⟨g', 0, none⟩) nm c).ownBlock q.A q.n := fun k hk => by
      obtain ⟨h1, h2⟩ := H3.out k q hk
      exact ⟨⟨h1.g, txt_far h1.key h2 HR2.out, h1.inn⟩, h2⟩
    by_cases hj : j < i
    · rw [if_pos hj] at hq ⊢; exact go j hq
    · rw [if_neg hj] at hq ⊢; exact go (j + 1) hq
end Go.Proofs.YtkplkfokpniflaaDoor.Ra
