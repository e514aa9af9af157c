/- Walks: above's iterator. A node, and a node's list, stored into a row of one's own. Walks: Add. Plain: what stands above a leaf that is added. What is known while the nodes above a leaf are gone through. -/
import Derived.Test.YtakglldffpnlaaaGreatDoorRtM3
namespace Go.Proofs.YtakglldffpnlaaaGreatDoor.Rt
set_option linter.all false
open Go.RowKit Iter
open Wr (Txt Any New)
attribute [local go_sem] Oper.semAt_some

theorem up_lt {j d k : Nat} (hj : j < 2 ^ d) (hk : k ≤ d) : j / 2 ^ k < 2 ^ (d - k) := by
  rw [Nat.div_lt_iff_lt_mul (Nat.two_pow_pos _), ← Nat.pow_add, show d - k + k = d by omega]; exact hj
theorem path_cell {w : World} {base h d j : Nat} (ho : w.ownsRow base 48 1 (.slice (some ⟨h, 0, none⟩) d d) d (Sp.pathL j d)) (k : Nat) (hk : k < d) : w.cell? ⟨h, k, none⟩ = some (.complex .f64 (Fl.fl (k + 1)) (Fl.fl (j / 2 ^ (k + 1)))) := by
  rw [ho.cellAt k (by omega)]
  simp [Sp.pathL, hk]
structure AbI (h b1 b2 : Nat) (X : Nat → Prop) (W : World) (Y : Nat → Prop) (W' : World) : Prop where
  hh : W'.heap[h]? = W.heap[h]?
  kx : Kept X W W'
  yx : ∀ b, Y b → X b ∨ W.heap.size ≤ b
theorem AbI.step {h b1 b2 : Nat} {X : Nat → Prop} {W : World} {Y Y' : Nat → Prop} {A B : World} (x : AbI h b1 b2 X W Y A) (hh : h < W.heap.size) (hx : ¬ X h) (hy : ∀ b, Y' b → (Y b ∨ A.heap.size ≤ b) ∧ b < B.heap.size) (hk : Kept Y A B) : AbI h b1 b2 X W Y' B := by
  have hs := x.kx.size
  have hYh : ∀ b, b < W.heap.size → ¬ X b → ¬ Y b := fun b h1 h2 h3 => by rcases x.yx b h3 with h | h; { exact h2 h }; { omega }
  refine ⟨(hk.block h (by omega) (hYh h hh hx)).trans x.hh, ⟨hk.os.trans x.kx.os, hk.tape.trans x.kx.tape, hk.output.trans x.kx.output, Nat.le_trans hs hk.size, fun b hb hx' => (hk.block b (by omega) (hYh b hb hx')).trans (x.kx.block b hb hx')⟩, fun b hb => ?_⟩
  rcases (hy b hb).1 with h | h
  · exact x.yx b h
  · exact .inr (by omega)

theorem yield_bool {J Jx : Nat → (Nat → Prop) → World → Prop} {k : Nat} {Y : Nat → Prop} {W1 W' : World} {e : Ending} (h : ∃ Y', (∀ b, Y' b → (Y b ∨ W1.heap.size ≤ b) ∧ b < W'.heap.size) ∧ Kept Y W1 W' ∧ ((e = .returned (.bool true) ∧ J (k + 1) Y' W') ∨ (e = .returned (.bool false) ∧ Jx (k + 1) Y' W'))) :
    ∃ (Y' : Nat → Prop) (b : Bool), e = .returned (.bool b) ∧ (∀ b, Y' b → (Y b ∨ W1.heap.size ≤ b) ∧ b < W'.heap.size) ∧ Kept Y W1 W' ∧ (b = true → J (k + 1) Y' W') ∧ (b = false → Jx (k + 1) Y' W') := by
  obtain ⟨Y', h1, h2, (⟨rfl, h3⟩ | ⟨rfl, h3⟩)⟩ := h
  · exact ⟨Y', true, rfl, h1, h2, fun _ => h3, fun h => by cases h⟩
  · exact ⟨Y', false, rfl, h1, h2, fun h => (by cases h), fun _ => h3⟩
set_option maxHeartbeats 8000000 in
set_option maxRecDepth 100000 in
theorem above_hands (b1 b2 j d g N c : Nat) (X : Nat → Prop) (w : World) (hd : d ≤ 16) (hj : j < 2 ^ d) (hN : N = 2 ^ (d + 1) - 1) (hX : ∀ k, X k → k ≠ b1 ∧ k ≠ b2)
    (hc1 : w.cell? ⟨b1, 0, none⟩ = some (.int .i64 j)) (ht : TrB d (some ⟨g, 0, none⟩) N c w b2) :
    HandsD Tryz.prog 60 #[.pointer (some ⟨b1, 0, none⟩), .pointer (some ⟨b2, 0, none⟩)] d (fun k => #[.pointer (some ⟨g, idx (k + 1) (j / 2 ^ (k + 1)) * 6, none⟩)]) X w := by
  intro l J Jx W Y0 hW hsz hJ hJx hY h0 h0X
  have c1 := (hW.cell (p := ⟨b1, 0, none⟩) (block_lt_of_cell hc1)).trans hc1
  have htW := ht.below hW ht.lt
  have hb2 : b2 < W.heap.size := htW.lt
  obtain ⟨t0, t1⟩ := htW.cs
  have HT := Lib.hid htW
  have HJ := Lib.hid hJ; have HX := Lib.hid hX
  have HY : Hid (Yields l d (fun k => #[.pointer (some ⟨g, idx (k + 1) (j / 2 ^ (k + 1)) * 6, none⟩)]) J Jx) := Lib.hid hY
  have H0 := Lib.hid h0; have H0X := Lib.hid h0X
  have HP : Hid (∀ k, k < d → Sp.IdxC (Fl.fl (k + 1)) (Fl.fl (j / 2 ^ (k + 1))) (idx (k + 1) (j / 2 ^ (k + 1)) : Nat) ∧ idx (k + 1) (j / 2 ^ (k + 1)) < N) := Lib.hid fun k hk => by
    have h1 := up_lt hj (show k + 1 ≤ d by omega)
    refine ⟨idx_c (is_spot _ _ (by omega) (Nat.lt_of_lt_of_le h1 (Nat.pow_le_pow_right (by decide) (by omega)))), ?_⟩
    rw [hN]
    exact idx_lt (by omega) h1
  have CP := Lib.hid fun w => Sp.path_is j d w hd hj
  clear hJ hJx hY h0 h0X hc1 ht htW hW hX hsz hj hN
  refine callsIn_of_wp Tryz.func60 rfl trivial ?_ rfl
  simp only [Tryz.ntmps60, List.size_toArray, List.length_cons, List.length_nil, Nat.reduceAdd, Nat.reduceSub, Array.replicate_succ, Array.replicate_zero, List.push_toArray, List.append_toArray, List.nil_append, List.cons_append]
  gi_wp2_with fail
  refine ⟨trivial, rfl, ?_⟩
  refine (callsIn_wide.2 (CP.out W)).mono ?_
  rintro e' w1 ⟨h, rfl, ho1, hb1⟩
  have hhl := (ho1.lt h rfl)
  have HO1 := Lib.hid ho1; have HB1 := Lib.hid hb1
  have hz1 := hb1.size
  have HJ1 := Lib.hid (HJ.out _ _ _ _ H0.out (Kept.of_below hb1))
  clear ho1 hb1 c1 t0 t1
  gi_wp2_with fail
  gi_loopw [11] (fun v W' => ∃ (k : Nat) (Y : Nat → Prop), k ≤ d ∧ v = .int .i64 k ∧ Hid (J k Y W') ∧ Hid (AbI h b1 b2 Y0 w1 Y W')) (fun v _ => d - (intOf v).toNat)
  case atStart => exact ⟨0, Y0, by omega, rfl, HJ1, Lib.hid ⟨rfl, Kept.refl _ _, fun b hb => .inl hb⟩⟩
  case round =>
    clear HJ1
    obtain ⟨k, Y, hk, rfl, HJk, HA⟩ := hrel
    by_cases hkd : k < d
    · have yk : (k : Int) < (d : Int) := by omega
      obtain ⟨hI, hIN⟩ := HP.out k hkd
      have CI := Lib.hid hI
      have hcell := path_cell (own_of_blocks HO1.out (w' := wr) fun b hb => by injection hb with hb; subst hb; exact HA.out.hh) k hkd
      have htr : TrB d (some ⟨g, 0, none⟩) N c wr b2 := (HA.out.kx.block b2 (by omega) (fun e => (HX.out _ (H0X.out _ e).1).2 rfl)).trans ((HB1.out.block b2 hb2).trans HT.out)
      obtain ⟨t0, t1⟩ := htr.cs
      have hYk := HY.out k Y wr.drew hkd (HJ.out _ _ _ _ HJk.out (Kept.drew wr))
      dsimp only at hYk
      obtain ⟨i, hi⟩ : ∃ i, idx (k + 1) (j / 2 ^ (k + 1)) = i := ⟨_, rfl⟩
      rw [hi] at CI hIN hYk
      have hIN' : (i : Int) < (N : Int) := by omega
      obtain ⟨x, hx⟩ : ∃ x, Fl.fl (k + 1) = x := ⟨_, rfl⟩
      obtain ⟨y, hy⟩ : ∃ y, Fl.fl (j / 2 ^ (k + 1)) = y := ⟨_, rfl⟩
      rw [hx, hy] at CI hcell
      obtain ⟨fn, tmps, assign, body, hyy, hRr⟩ := hYk
      have HR9 := Lib.hid hRr
      clear hRr hI hi hx hy htr
      gi_wp2
      gi_region_with (first
        | (refine ⟨trivial, rfl, (callsIn_wide.2 (Sp.index_c CI.out _)).mono ?_⟩; rintro e' w' ⟨rfl, rfl⟩)
        | (refine ⟨rfl, HR9.out.mono ?_⟩; rintro e' W7 hpost; obtain ⟨Y2, b, rfl, hpost2⟩ := yield_bool hpost; have HPO := Lib.hid hpost2; clear hpost2))
      all_goals cases b
      case _ =>
        have HJ7 := Lib.hid (HPO.out.2.2.2 rfl)
        gi_wp2
        refine bodyPost_ret (results_none rfl _ _ _) rfl ?_
        exact ⟨⟨_, rfl⟩, Y2, .inr ⟨_, hkd, HJ7.out⟩⟩
      case _ =>
        have HJ7 := Lib.hid (HPO.out.2.2.1 rfl)
        have HA7 := Lib.hid (HA.out.step (by omega) (fun e => by have := (H0X.out h e).2; omega) HPO.out.1 ((Kept.drew wr).trans HPO.out.2.1))
        gi_wp2
        go_roundw
        case rel => exact ⟨k + 1, Y2, by omega, by go_num, HJ7, HA7⟩
        case measure => simp [intOf]; omega
      case _ =>
        have HJ7 := Lib.hid (HPO.out.2.2.2 rfl)
        gi_wp2
        refine bodyPost_ret (results_none rfl _ _ _) rfl ?_
        exact ⟨⟨_, rfl⟩, Y2, .inr ⟨_, hkd, HJ7.out⟩⟩
      case _ =>
        have HJ7 := Lib.hid (HPO.out.2.2.1 rfl)
        have HA7 := Lib.hid (HA.out.step (by omega) (fun e => by have := (H0X.out h e).2; omega) HPO.out.1 ((Kept.drew wr).trans HPO.out.2.1))
        gi_wp2
        go_roundw
        case rel => exact ⟨k + 1, Y2, by omega, by go_num, HJ7, HA7⟩
        case measure => simp [intOf]; omega
    · have yk : ¬ (k : Int) < (d : Int) := by omega
      obtain rfl : k = d := by omega
      gi_wp2
      go_end0
      exact ⟨⟨_, rfl⟩, Y, .inl HJk.out⟩
theorem above_any (d j : Nat) (A : Option Addr) (n c : Nat) (w : World) :
    Calls Tryz.prog 33 #[.agg #[.int .i64 d, .slice A n c], .int .i64 j] w fun e w' => e = .returned (.func (.func 60) #[] #[.pointer (some ⟨w.heap.size + 1, 0, none⟩), .pointer (some ⟨w.heap.size, 0, none⟩)]) ∧
      w' = (w.alloc (.cells #[.int .i64 d, .slice A n c] 24)).alloc (.cells #[.int .i64 j] 3) := by
  go_enter Tryz.func33, Tryz.ntmps33
  go_wp2
  go_ret
  exact ⟨rfl, rfl⟩
end Go.Proofs.YtakglldffpnlaaaGreatDoor.Rt

namespace Go.Proofs.YtakglldffpnlaaaGreatDoor.Rt
set_option linter.all false
open Go.RowKit
open Wr (Txt Any New)

theorem flat_set5 : ∀ (qs : List NdQ) (i : Nat) (q : NdQ) (A : Option Addr) (n c : Nat), qs[i]? = some q → (flat qs).set (i * 6 + 5) (.slice A n c) = flat (qs.set i { q with A5 := A, n5 := n, c5 := c })
  | [], i, q, A, n, c, h => by simp at h
  | q' :: qs, 0, q, A, n, c, h => by
    simp at h
    subst h
    rw [List.set_cons_zero, flat_cons, flat_cons]
    simp
  | q' :: qs, i + 1, q, A, n, c, h => by
    have ih := flat_set5 qs i q A n c (by simpa using h)
    rw [List.set_cons_succ, flat_cons, flat_cons, ← ih, List.set_append_right _ _ (by rw [cs_len]; omega), cs_len, show (i + 1) * 6 + 5 - 6 = i * 6 + 5 by omega]
/-- a node's Unmerged ones are others -/
theorem OwnN.putUn {S : Nat → Prop} {w : World} {base g n c : Nat} {ns : List Nd} (h : OwnN S w base g n c ns) (i : Nat) (hi : i < n) (A : Option Addr) (m cu : Nat) (xs : List Int) (hx : Ints Any w A m cu xs) (hA : 0 < m → ∀ ad, A = some ad → S ad.block) :
    OwnN S (w.setCell ⟨g, i * 6 + 5, none⟩ (.slice A m cu)) base g n c (ns.set i { nd ns i with un := xs }) := by
  obtain ⟨h0, qs, h1, h2, h3, h4⟩ := h
  have hq : qs[i]? = some qs[i] := List.getElem?_eq_getElem (by omega)
  obtain ⟨hq1, hq2⟩ := h4 i _ hq
  have hs : w.heap.size ≤ (w.setCell ⟨g, i * 6 + 5, none⟩ (.slice A m cu)).heap.size := by simp [World.setCell]
  have hc : ∀ b, S b → b < w.heap.size → (w.setCell ⟨g, i * 6 + 5, none⟩ (.slice A m cu)).heap[b]? = w.heap[b]? := fun b hb _ => Below.heap_setCell w _ _ b (h0 b hb)
  refine ⟨h0, qs.set i { qs[i] with A5 := A, n5 := m, c5 := cu }, by rw [List.length_set]; exact h1, by rw [List.length_set]; exact h2, ?_, fun j q' hq' => ?_⟩
  · have := h3.stored (i * 6 + 5) (.slice A m cu)
    rw [flat_set5 qs i _ A m cu hq] at this
    exact this.1
  · rw [nd_set' ns i j _ (by omega)]
    rw [List.getElem?_set] at hq'
    by_cases e : i = j
    · subst e
      rw [if_pos rfl, if_pos (by omega)] at hq'
      injection hq' with hq'
      subst hq'
      rw [if_pos rfl]
      have hk := hq1.keep hq2 hs hc
      exact ⟨⟨hk.k, hk.ek, hk.vk, hk.nm, hk.ab, ints_keep hx hA hs hc⟩, ⟨hq2.f1, hq2.f2, hq2.f3, hq2.f4, hA⟩⟩
    · rw [if_neg e] at hq'
      rw [if_neg (fun x => e x.symm)]
      exact ⟨(h4 j q' hq').1.keep (h4 j q' hq').2 hs hc, (h4 j q' hq').2⟩
theorem wp_store_node {o : Oper} {a : Act} {w : World} {K : Act → World → Prop} {Q : Exit → Act → World → Prop} (x y : Operand) (ho : o.op = .store 28 x y)
    (S : Nat → Prop) (base g n c : Nat) (ns : List Nd) (j : Nat) (q : NdQ) (m : Nd) (hx : a.eval x = .pointer (some ⟨g, j * 6, none⟩)) (hy : a.eval y = .agg q.cs)
    (hO : OwnN S w base g n c ns) (hj : j < n) (hq : NdIs Any w q m) (hqf : NdFar S q)
    (k : ∀ w', OwnN S w' base g n c (ns.set j m) → w.grownBy w' (some g) → w'.heap.size = w.heap.size → K (a.put o.dst undef) w') : o.wp Tryz.prog a w K Q := by
  have hO' := hO
  obtain ⟨h0, qs, h1, h2, h3, h4⟩ := hO
  rcases h3.2 with ⟨e, _⟩ | ⟨g', c', cur, e, hb, hcc, a1, a2, a3, a4⟩
  · cases e
  · injection e with e1 e2 e3
    have e5 : g' = g := by injection e1 with e1; injection e1 with e1; exact e1.symm
    subst e5 e3
    have hnc : n * 6 ≤ c * 6 := Nat.mul_le_mul_right _ a1
    have hst := run_storeCells_at Tryz.prog g' (j * 6) 28 q.cs.toList 0 cur w hcc (by rw [cs_len, a3]; omega) (fun v hv => Array.all_eq_true_iff_forall_mem.1 (nd_all q) v (by simpa using hv))
    rw [Nat.add_zero, cs_len] at hst
    obtain ⟨i, hi, _, hsz, _⟩ := nodeInfo
    have hs6 : q.cs.size = i.size := by rw [hsz]; rfl
    have hsv : (storeVar 28 ⟨g', j * 6, none⟩ (.agg q.cs)).run Tryz.prog w = .ok () (w.setRow g' (cur.toList.take (j * 6) ++ q.cs.toList ++ cur.toList.drop (j * 6 + 6)).toArray) := by
      obtain ⟨cs, hcs⟩ : ∃ cs, q.cs = cs := ⟨_, rfl⟩
      rw [hcs] at hst hs6 ⊢
      simp [storeVar, sizeOf, typeInfo, hi, Value.cells, hs6]
      simpa using hst
    unfold Oper.wp execOp
    simp only [ho, hx, hy, Instr.storeAt, Instr.sureAddr, Sem.run_bind, Sem.run_pure, Result.andThen_ok, hsv]
    refine k _ (hO'.put j hj q m hq hqf (by simp [World.setRow]) cur hcc (setRow_heap w g' cur _ _ _ hcc) fun b hb _ => setRow_other w g' b _ (h0 b hb)) ⟨rfl, rfl, rfl, by simp [World.setRow], fun k _ hk => setRow_other w g' k _ (fun e => hk (by rw [e]))⟩ (by simp [World.setRow])
end Go.Proofs.YtakglldffpnlaaaGreatDoor.Rt

namespace Go.Proofs.YtakglldffpnlaaaGreatDoor.Rt
set_option linter.all false
open Go.RowKit Iter
open Wr (Txt Any New)
attribute [local go_sem] Oper.semAt_some

theorem results3 {P : Program} {fn : Func} {p u v : Tmp} {ty : TypeId} (h : fn.results = #[.cell p ty, .tmp u, .tmp v]) (tmps : Array Value) (w : World) (g : Nat) (t : TypeId) (cs : Array Value) (fr : Nat × Nat) (d : TypeDesc)
    (hp : tmps.getD p undef = .pointer (some ⟨g, 0, none⟩)) (hg : w.heap[g]? = some (.cells cs t fr))
    (hu : P.underlying ty = some d) (hd : (match d with | .struct _ | .array _ _ => true | _ => false) = true) (hi : (P.info? ty).map (·.size) = some cs.size) :
    (results fn tmps).run P w = .ok (.tuple #[.agg cs, tmps.getD u undef, tmps.getD v undef]) w := by
  have hp' : tmps[p]?.getD undef = .pointer (some ⟨g, 0, none⟩) := by simpa using hp
  unfold results
  simp only [h]
  simp [Sem.run_bind, hp', asAddr, run_loadVar_row w g t ty cs fr d hg hu hd hi]

/-- a tree's two cells, zero -/
abbrev zt : Array Value := #[.int .i64 0, .slice none 0 0]
theorem leafR_iff {S : Nat → Prop} {w : World} {q : NdQ} {n : Nd} (h : NdIs S w q n) : leafF q.k q.n1 q.n2 q.n3 q.n4 q.n5 = true ↔ LeafR n := by
  have e1 := h.ek.len; have e2 := h.vk.len; have e3 := h.nm.len; have e4 := h.ab.len; have e5 := h.un.len
  rw [← e1, ← e2, ← e3, ← e4, ← e5, h.k]
  unfold leafF keyF
  constructor
  · intro hh
    simp at hh
    obtain ⟨h1, ⟨h2, h3⟩, h4, ⟨h5, h6⟩, h7⟩ := hh
    exact ⟨h1, h2, h4, ⟨by omega, h6⟩, by rcases h3 with h | h; { left; simp [h] }; { right; exact h }, by simpa using h7⟩
  · intro hl
    have := hl.nm.1
    simp [hl.kind, hl.ek, hl.vk, hl.nm.1, hl.nm.2, hl.un]
    rcases hl.above with h | h
    · left; simpa using h
    · right; exact h

/-- a tree, a leaf and a tree of nothing, in their blocks -/
structure AdI (D : Int) (A : Option Addr) (n c : Nat) (q : NdQ) (w : World) (W : World) : Prop where
  tr : TrB D A n c W w.heap.size
  lf : NdB q.k q.A1 q.n1 q.c1 q.A2 q.n2 q.c2 q.A3 q.n3 q.c3 q.A4 q.n4 q.c4 q.A5 q.n5 q.c5 W (w.heap.size + 1)
  out : W.heap[w.heap.size + 1 + 1]? = some (.cells zt 24 (0, 0))
  bl : Below w.heap.size w W
theorem AdI.below {D : Int} {A : Option Addr} {n c : Nat} {q : NdQ} {w W W' : World} (x : AdI D A n c q w W) (hb : Below W.heap.size W W') : AdI D A n c q w W' :=
  ⟨x.tr.below hb x.tr.lt, x.lf.below hb x.lf.lt, (hb.block _ (Array.getElem?_eq_some_iff.1 x.out).1).trans x.out, x.bl.trans (hb.mono x.bl.size)⟩
theorem AdI.new (D : Int) (A : Option Addr) (n c : Nat) (q : NdQ) (w : World) : ∃ W, (((w.alloc (.cells #[.int .i64 D, .slice A n c] 24)).alloc (.cells q.cs 28)).alloc (.cells zt 24)) = W ∧ AdI D A n c q w W ∧ W.heap.size = w.heap.size + 1 + 1 + 1 := by
  obtain ⟨z1, h1⟩ : ∃ z, w.alloc (.cells #[.int .i64 D, .slice A n c] 24) = z := ⟨_, rfl⟩
  obtain ⟨z2, h2⟩ : ∃ z, z1.alloc (.cells q.cs 28) = z := ⟨_, rfl⟩
  obtain ⟨z3, h3⟩ : ∃ z, z2.alloc (.cells zt 24) = z := ⟨_, rfl⟩
  have s1 : z1.heap.size = w.heap.size + 1 := by rw [← h1, World.size_alloc]
  have s2 : z2.heap.size = w.heap.size + 1 + 1 := by rw [← h2, World.size_alloc, s1]
  have s3 : z3.heap.size = w.heap.size + 1 + 1 + 1 := by rw [← h3, World.size_alloc, s2]
  have b1 : Below w.heap.size w z1 := by rw [← h1]; exact below_one _ _
  have b2 : Below z1.heap.size z1 z2 := by rw [← h2]; exact below_one _ _
  have b3 : Below z2.heap.size z2 z3 := by rw [← h3]; exact below_one _ _
  have t1 : TrB D A n c z1 w.heap.size := by rw [← h1]; exact TrB.new _ _ _ _ _
  have t2 : NdB q.k q.A1 q.n1 q.c1 q.A2 q.n2 q.c2 q.A3 q.n3 q.c3 q.A4 q.n4 q.c4 q.A5 q.n5 q.c5 z2 (w.heap.size + 1) := by rw [← h2, ← s1]; exact NdB.new _
  have t3 : z3.heap[w.heap.size + 1 + 1]? = some (.cells zt 24 (0, 0)) := by rw [← h3, ← s2]; exact heap_alloc_last _ _
  rw [h1, h2, h3]
  exact ⟨z3, rfl, ⟨(t1.below b2 (by omega)).below b3 (by omega), t2.below b3 (by omega), t3, b1.trans ((b2.trans (b3.mono (by omega))).mono (by omega))⟩, s3⟩

theorem add_end {w W : World} (E : Int) {tmps : Array Value} (ho : W.heap[w.heap.size + 1 + 1]? = some (.cells zt 24 (0, 0))) (hb : Below w.heap.size w W) (h4 : tmps.getD 4 undef = .pointer (some ⟨w.heap.size + 1 + 1, 0, none⟩) := by rfl) (h5 : tmps.getD 5 undef = .int .i64 0 := by rfl) (h6 : tmps.getD 6 undef = .int .i64 E := by rfl) :
    LeavesInM Fence.wide 0 Tryz.prog Tryz.f9 tmps (fun e w' => e = .returned (.tuple #[.agg zt, .int .i64 0, .int .i64 E]) ∧ Below w.heap.size w w') [] .returning (W.setRow (w.heap.size + 1 + 1) zt) := by
  refine leaves_marks2 (lo := 0) [] _ trivial fun W9 hk9 => ⟨_, results3 (p := 4) (u := 5) (v := 6) (ty := 24) (by kernel_rfl) _ _ (w.heap.size + 1 + 1) 24 zt (0, 0) _ h4 ?_ Tryz.underlying24 rfl (tr_sized _ _ _ _), ?_, ?_⟩
  · have hq := setRow_heap W (w.heap.size + 1 + 1) _ zt 24 _ ho
    exact (hk9.block _ (Array.getElem?_eq_some_iff.1 hq).1 (by simp)).trans hq
  · rw [h5, h6]
  · exact hk9.below (below_setRow hb (by omega) _) (fun i e => by cases e) (below_setRow hb (by omega) _).size

set_option maxHeartbeats 8000000 in
set_option maxRecDepth 100000 in
theorem add_no (D : Int) (A : Option Addr) (n c : Nat) (ns : List Nd) (q : NdQ) (nl : Nd) (w : World) (hN : Nodes Any Any w A n c ns) (hq : NdIs Any w q nl) (hT : Tabs w) (E : Int) (hE : (¬ RightT D ns ∧ E = 141) ∨ (RightT D ns ∧ ¬ LeafR nl ∧ E = 1)) :
    Calls Tryz.prog 9 #[.agg #[.int .i64 D, .slice A n c], .agg q.cs] w fun e w' => e = .returned (.tuple #[.agg zt, .int .i64 0, .int .i64 E]) ∧ Below w.heap.size w w' := by
  obtain ⟨W0, hW0, hI, hz⟩ := AdI.new D A n c q w
  have HI := Lib.hid hI
  have hN0 := hN.below hI.bl
  have hT0 := hT.below hI.bl
  obtain ⟨t0, t1⟩ := hI.tr.cs
  rcases hE with ⟨hr, rfl⟩ | ⟨hr, hl, rfl⟩
  · have C1 := Lib.hid (right_is D A n c ns false W0 hN0 hT0.sp (by simp [hr]))
    obtain ⟨k, A1, n1, c1, A2, n2, c2, A3, n3, c3, A4, n4, c4, A5, n5, c5⟩ := q
    dsimp only [NdQ.cs] at *
    clear hN0 hT0 hr hI hN hT hq
    refine callsIn_wide.1 (callsIn_of_wp_marks (n := 0) Tryz.func9 rfl trivial ?_ rfl)
    simp only [Tryz.ntmps9, List.size_toArray, List.length_cons, List.length_nil, Nat.reduceAdd, Nat.reduceSub, Array.replicate_succ, Array.replicate_zero, List.push_toArray, List.append_toArray, List.nil_append, List.cons_append]
    gi_wp2_with fail
    refine ⟨trivial, rfl, ?_⟩
    refine (callsIn_wide.2 C1.out).mono ?_
    rintro e' w2 ⟨rfl, hb2⟩
    have HI2 := Lib.hid (HI.out.below hb2)
    clear hb2
    gi_wp2_with (refine wpListIn_store_whole (plain_wide _) rfl 24 (.tmp 4) (.tmp 14) rfl (w.heap.size + 1 + 1) zt rfl rfl 24 zt HI2.out.out (tr_sized _ _ _ _) rfl (tr_all _ _ _ _) ?_)
    exact add_end 141 HI2.out.out HI2.out.bl
  · have C1 := Lib.hid (right_is D A n c ns true W0 hN0 hT0.sp (by simp [hr]))
    have hlf : leafF q.k q.n1 q.n2 q.n3 q.n4 q.n5 = false := by rw [Bool.eq_false_iff]; intro h; exact hl ((leafR_iff hq).1 h)
    have C2 := Lib.hid fun w => leaf_is q.k q.A1 q.n1 q.c1 q.A2 q.n2 q.c2 q.A3 q.n3 q.c3 q.A4 q.n4 q.c4 q.A5 q.n5 q.c5 false w hlf
    obtain ⟨k, A1, n1, c1, A2, n2, c2, A3, n3, c3, A4, n4, c4, A5, n5, c5⟩ := q
    dsimp only [NdQ.cs] at *
    clear hN0 hT0 hr hI hN hT hq hl hlf
    refine callsIn_wide.1 (callsIn_of_wp_marks (n := 0) Tryz.func9 rfl trivial ?_ rfl)
    simp only [Tryz.ntmps9, List.size_toArray, List.length_cons, List.length_nil, Nat.reduceAdd, Nat.reduceSub, Array.replicate_succ, Array.replicate_zero, List.push_toArray, List.append_toArray, List.nil_append, List.cons_append]
    gi_wp2_with fail
    refine ⟨trivial, rfl, ?_⟩
    refine (callsIn_wide.2 C1.out).mono ?_
    rintro e' w2 ⟨rfl, hb2⟩
    have HI2 := Lib.hid (HI.out.below hb2)
    obtain ⟨u0, u1, u2, u3, u4, u5⟩ := HI2.out.lf.cs
    clear hb2 t0 t1
    gi_wp2_with fail
    refine ⟨trivial, rfl, ?_⟩
    refine (callsIn_wide.2 (C2.out _)).mono ?_
    rintro e' w3 ⟨rfl, hb3⟩
    have HI3 := Lib.hid (HI2.out.below hb3)
    clear hb3 u0 u1 u2 u3 u4 u5
    gi_wp2_with (refine wpListIn_store_whole (plain_wide _) rfl 24 (.tmp 4) (.tmp 18) rfl (w.heap.size + 1 + 1) zt rfl rfl 24 zt HI3.out.out (tr_sized _ _ _ _) rfl (tr_all _ _ _ _) ?_)
    exact add_end 1 HI3.out.out HI3.out.bl
end Go.Proofs.YtakglldffpnlaaaGreatDoor.Rt

namespace Go.Proofs.YtakglldffpnlaaaGreatDoor.Rt
set_option linter.all false

/-- what is above is not yet turned -/
theorem upUn_at (f : Nat) (ns : List Nd) (l p : Nat) : ∀ k, k ≤ l → nd (upUn f ns k) (idx (l + 1) p) = nd ns (idx (l + 1) p)
  | 0, _ => rfl
  | k + 1, h => by
    have ih := upUn_at f ns l p k (by omega)
    unfold upUn
    dsimp only
    split
    · exact ih
    · by_cases hl : idx (k + 1) (f / 2 ^ (k + 1)) < (upUn f ns k).length
      · rw [nd_set _ _ _ _ hl, if_neg (fun e => by have := (idx_inj e).1; omega), ih]
      · rw [List.set_eq_of_length_le (by omega), ih]
/-- a node of a right tree knows no leaf that is not there, and its Unmerged ones rise -/
theorem Right.un_free {ns : List Nd} {d : Nat} (h : Right ns d) (l p : Nat) (f : Nat) (hf : ¬ There ns d f) (hk : (nd ns (idx (l + 1) p)).kind ≠ 0) : Rise (-1) (nd ns (idx (l + 1) p)).un ∧ ¬ (f : Int) ∈ (nd ns (idx (l + 1) p)).un ∧ (nd ns (idx (l + 1) p)).un.length ≤ 64 := by
  have hi : idx (l + 1) p < 2 ^ (d + 1) - 1 := by
    rcases Nat.lt_or_ge (idx (l + 1) p) ns.length with hh | hh
    · rw [h.len] at hh; exact hh
    · rw [nd_ge _ _ hh] at hk; exact absurd rfl hk
  obtain ⟨l', p', h1, h2, h3⟩ := idx_any d _ hi
  obtain ⟨rfl, rfl⟩ := idx_inj h3
  have hd : 2 ^ d ≤ 2 ^ 6 := Nat.pow_le_pow_right (by decide) h.deep
  have hlen := h.un_len (l + 1) p' h1 h2
  have hh := h.each (l + 1) p' h1 h2
  revert hh hk hlen
  generalize nd ns (idx (l + 1) p') = nn
  intro hk hlen hh
  cases hh with
  | bl e => rw [e] at hk; exact absurd rfl hk
  | lf e _ => omega
  | nod _ _ k => exact ⟨k.rise, fun hm => hf (k.each _ hm).2, by omega⟩
theorem free_first {ns : List Nd} {d : Nat} : ¬ There ns d (firstB ns d) := by
  obtain ⟨h1, h2, h3⟩ := firstB_is ns d
  rintro ⟨a, b, c⟩
  rw [pow_eq] at b
  rw [Int.toNat_natCast] at c
  exact c (h3 (by omega))
theorem addD_le {ns : List Nd} {d : Nat} : d ≤ addD ns d ∧ addD ns d ≤ d + 1 ∧ firstB ns d < 2 ^ (addD ns d) := by
  obtain ⟨h1, h2, h3⟩ := firstB_is ns d
  unfold addD
  split
  · rename_i h; rw [Nat.pow_succ]; have := Nat.two_pow_pos d; omega
  · omega
theorem odd_ne (l p f : Nat) : idx (l + 1) p ≠ 2 * f := fun e => by have := idx_odd l p; omega
/-- where a leaf is set, the nodes above are as they were -/
theorem add_above (ns : List Nd) (e f k : Nat) (leaf : Nd) (l p : Nat) (hk : k ≤ l) : nd (upUn f ((grow ns e).set (2 * f) leaf) k) (idx (l + 1) p) = nd ns (idx (l + 1) p) := by
  rw [upUn_at _ _ _ _ _ hk]
  by_cases hl : 2 * f < (grow ns e).length
  · rw [nd_set _ _ _ _ hl, if_neg (odd_ne l p f), nd_grow]
  · rw [List.set_eq_of_length_le (by omega), nd_grow]
end Go.Proofs.YtakglldffpnlaaaGreatDoor.Rt

namespace Go.Proofs.YtakglldffpnlaaaGreatDoor.Rt
set_option linter.all false
open Go.RowKit Iter
open Wr (Txt Any New)

theorem OwnN.frozen {S : Nat → Prop} {w : World} {base g n c : Nat} {ns : List Nd} (h : OwnN S w base g n c ns) (off : Nat) : w.frozen? ⟨g, off, none⟩ = false := by
  obtain ⟨_, qs, _, _, h3, _⟩ := h
  rcases h3.2 with ⟨e, _⟩ | ⟨g', c', cur, e, hb, hcc, _⟩
  · cases e
  · injection e with e1 e2 e3
    have e5 : g' = g := by injection e1 with e1; injection e1 with e1; exact e1.symm
    subst e5
    simp [World.frozen?, hcc]
structure AddI (bs : Nat) (S0 : Nat → Prop) (g N f : Nat) (w0 : World) (ns : List Nd) (k : Nat) (Y : Nat → Prop) (W : World) : Prop where
  own : OwnN (fun b => S0 b ∨ (Y b ∧ b ≠ g)) W bs g N N (upUn f ns k)
  yx : ∀ b, Y b → (b = g ∨ w0.heap.size ≤ b) ∧ b < W.heap.size
  yg : Y g
  kx : Kept (fun b => b = g ∨ w0.heap.size ≤ b) w0 W
theorem AddI.kept {bs : Nat} {S0 : Nat → Prop} {g N f k : Nat} {w0 : World} {ns : List Nd} {Y : Nat → Prop} {A W : World} (h : AddI bs S0 g N f w0 ns k Y A) (hk : Kept (fun b => w0.heap.size ≤ b ∧ ¬ Y b) A W) (hg : g < w0.heap.size) (hB : ∀ b, S0 b → b < w0.heap.size) : AddI bs S0 g N f w0 ns k Y W := by
  refine ⟨h.own.kept hk.size (hk.block g h.own.lt.2 (fun e => by omega)) (fun b hb hlt => hk.block b hlt fun e => ?_), fun b hb => ⟨(h.yx b hb).1, Nat.lt_of_lt_of_le (h.yx b hb).2 hk.size⟩, h.yg, h.kx.trans (hk.mono fun i e => .inr e.1)⟩
  rcases hb with hb | hb
  · have := hB _ hb; omega
  · exact e.2 hb.1
theorem AddI.same {bs : Nat} {S0 : Nat → Prop} {g N f k : Nat} {w0 : World} {ns : List Nd} {Y : Nat → Prop} {W : World} (h : AddI bs S0 g N f w0 ns k Y W) (hk : (nd (upUn f ns k) (idx (k + 1) (f / 2 ^ (k + 1)))).kind = 0) : AddI bs S0 g N f w0 ns (k + 1) Y W := by
  have e : upUn f ns (k + 1) = upUn f ns k := by
    rw [upUn]
    rw [if_pos hk]
  exact ⟨by rw [e]; exact h.own, h.yx, h.yg, h.kx⟩
theorem AddI.put {bs : Nat} {S0 : Nat → Prop} {g N f k : Nat} {w0 : World} {ns : List Nd} {Y : Nat → Prop} {W Wc : World} (h : AddI bs S0 g N f w0 ns k Y W) (hk : (nd (upUn f ns k) (idx (k + 1) (f / 2 ^ (k + 1)))).kind ≠ 0) (ha : idx (k + 1) (f / 2 ^ (k + 1)) < N)
    (hb : Below W.heap.size W Wc) {A : Option Addr} {m c : Nat} (hI : Ints (New W.heap.size Wc) Wc A m c (ins f (nd (upUn f ns k) (idx (k + 1) (f / 2 ^ (k + 1)))).un)) (hBg : ∀ b, S0 b → b ≠ g) :
    AddI bs S0 g N f w0 ns (k + 1) (fun b => Y b ∨ (W.heap.size ≤ b ∧ b < Wc.heap.size)) (Wc.setCell ⟨g, idx (k + 1) (f / 2 ^ (k + 1)) * 6 + 5, none⟩ (.slice A m c)) := by
  have e : upUn f ns (k + 1) = (upUn f ns k).set (idx (k + 1) (f / 2 ^ (k + 1))) { nd (upUn f ns k) (idx (k + 1) (f / 2 ^ (k + 1))) with un := ins f (nd (upUn f ns k) (idx (k + 1) (f / 2 ^ (k + 1)))).un } := by
    rw [upUn]
    rw [if_neg hk]
    rfl
  have hgl := h.own.lt.2
  have hs : ∀ p v, (Wc.setCell p v).heap.size = Wc.heap.size := fun p v => by simp [World.setCell]
  have hsz := hb.size
  have h1 : OwnN (fun b => S0 b ∨ ((Y b ∨ (W.heap.size ≤ b ∧ b < Wc.heap.size)) ∧ b ≠ g)) Wc bs g N N (upUn f ns k) :=
    (h.own.below hb).mono (fun b hb => hb.imp id fun x => ⟨.inl x.1, x.2⟩) (fun b hb => by
      rcases hb with hb | hb
      · exact hBg _ hb
      · exact hb.2)
  refine ⟨?_, fun b hb' => ?_, .inl h.yg, ?_⟩
  · rw [e]
    refine h1.putUn _ ha A m c _ hI.any fun hm ad hA => ?_
    have := (hI.2.2.2.2.1 ad hA).1
    exact .inr ⟨.inr this, by have := this.1; omega⟩
  · rw [hs]
    rcases hb' with h' | h'
    · exact ⟨(h.yx b h').1, by have := (h.yx b h').2; omega⟩
    · exact ⟨.inr (by have := h.kx.size; omega), h'.2⟩
  · exact (h.kx.trans (Kept.of_below hb)).trans (Kept.set _ _ _ (.inl rfl))
end Go.Proofs.YtakglldffpnlaaaGreatDoor.Rt
