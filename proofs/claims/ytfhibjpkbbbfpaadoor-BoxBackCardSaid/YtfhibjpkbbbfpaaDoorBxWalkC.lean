/- Walks: the tag of texts one behind the other, as an array; of what stands ahead, and of bytes. -/
import Derived.Test.YtfhibjpkbbbfpaaDoorBxWalkB
namespace Go.Proofs.YtfhibjpkbbbfpaaDoor.Bx
set_option linter.all false
open Go.RowKit Wr

theorem step_of {P : Program} {ops : Array Oper} {o : Oper} {a : Act} {w : World} {K : Act → World → Prop} {Q : Exit → Act → World → Prop} {E : Prop} {ts : Array Value} (hw : Region.wanted o (yielded ops ts) = true)
    (h : Oper.wp P o a w K Q) : if Region.wanted o (yielded ops ts) = true then Oper.wp P o a w K Q else E := by rw [if_pos hw]; exact h
theorem below_of_drew {w w' : World} (h : Below w.drew.heap.size w.drew w') : Below w.heap.size w w' := ⟨h.os, h.tape, h.output, h.size, h.block⟩
theorem wp_load_run {o : Oper} {a : Act} {w : World} {K : Act → World → Prop} {Q : Exit → Act → World → Prop} (ty : TypeId) (x : Operand) (ho : o.op = .load ty x) (ad : Addr) (v : Value)
    (hx : a.eval x = .pointer (some ad)) (hl : (loadVar ty ad).run Tryd.prog w = .ok v w) (h : K (a.put o.dst v) w) : Oper.wp Tryd.prog o a w K Q := by
  unfold Oper.wp execOp
  simp only [ho, hx, Instr.loadAt, Instr.sureAddr, Sem.run_bind, Sem.run_pure, Result.andThen_ok, hl]
  exact h
/-- a key's own keys, in a block -/
def KeysIn (g : Nat) (A1 : Option Addr) (c1 : Nat) (A2 : Option Addr) (c2 : Nat) (w : World) : Prop := w.heap[g]? = some (.cells #[.slice A1 32 c1, .slice A2 32 c2] 33 (0, 0))
theorem KeysIn.below {g : Nat} {A1 A2 : Option Addr} {c1 c2 : Nat} {w w' : World} (h : KeysIn g A1 c1 A2 c2 w) (hb : Below w.heap.size w w') : KeysIn g A1 c1 A2 c2 w' := (hb.block g (Array.getElem?_eq_some_iff.1 h).1).trans h
theorem KeysIn.cell1 {g : Nat} {A1 A2 : Option Addr} {c1 c2 : Nat} {w : World} (h : KeysIn g A1 c1 A2 c2 w) : w.cell? ⟨g, 1, none⟩ = some (.slice A2 32 c2) := by rw [cell_of_row _ _ 1 _ _ _ h]; rfl
theorem KeysIn.cell0 {g : Nat} {A1 A2 : Option Addr} {c1 c2 : Nat} {w : World} (h : KeysIn g A1 c1 A2 c2 w) : w.cell? ⟨g, 0, none⟩ = some (.slice A1 32 c1) := by rw [cell_of_row _ _ 0 _ _ _ h]; rfl
theorem KeysIn.lt {g : Nat} {A1 A2 : Option Addr} {c1 c2 : Nat} {w : World} (h : KeysIn g A1 c1 A2 c2 w) : g < w.heap.size := (Array.getElem?_eq_some_iff.1 h).1

set_option maxHeartbeats 2000000 in
set_option maxRecDepth 100000 in
theorem mac_any (A1 A2 : Option Addr) (c1 c2 : Nat) (kt : List Nat) (ad : Addr) (K cc : Nat) (ls : List (List Nat)) (w : World) (hT : Tabs w) (hK2 : Txt Any w A2 32 c2 kt) (hL : TxtL Any w (some ad) K cc ls) (hK0 : 0 < K) (hK8 : K ≤ 8)
    (hm : ls.flatten.length ≤ 100000) (r : List Nat) (hr : Hid (Sha.mac kt ls.flatten = r)) :
    Calls Tryd.prog 24 #[.agg #[.slice A1 32 c1, .slice A2 32 c2], .slice (some ad) K cc] w fun e w' => e = .returned (.agg (bcells r).toArray) ∧ Below w.heap.size w w' := by
  have hlt := hT.lt
  have HT := Lib.hid hT; have HK := Lib.hid hK2; have HL := Lib.hid hL; have HM := Lib.hid hm; clear hT hK2 hL hm
  have HRL : Hid (r.length = 32) := Lib.hid (by rw [← hr.out]; exact Sha.mac_len _ _)
  have HRX : Hid (∀ j, gt r j < 256) := Lib.hid (by rw [← hr.out]; exact Sha.mac_lt _ _)
  obtain ⟨Z, hz, hZ⟩ := zero_tag
  have HZ := Lib.hid hZ; clear hZ
  have e1 : (w.alloc (.cells #[.slice A1 32 c1, .slice A2 32 c2] 33)).heap.size = w.heap.size + 1 := by simp
  have HG1 : Hid (KeysIn w.heap.size A1 c1 A2 c2 ((w.alloc (.cells #[.slice A1 32 c1, .slice A2 32 c2] 33)).alloc (.cells Z 37))) :=
    Lib.hid ((Below.heap_alloc _ _ _ (by rw [e1]; omega)).trans (heap_alloc_last w _))
  have g2 := heap_alloc_last (w.alloc (.cells #[.slice A1 32 c1, .slice A2 32 c2] 33)) (.cells Z 37)
  rw [e1] at g2
  have HG2 := Lib.hid g2
  have HB := Lib.hid (((Below.refl w.heap.size w).alloc (Nat.le_refl _) (.cells #[.slice A1 32 c1, .slice A2 32 c2] 33)).alloc (by simp) (.cells Z 37))
  have HE : Hid (w.heap.size + 2 ≤ ((w.alloc (.cells #[.slice A1 32 c1, .slice A2 32 c2] 33)).alloc (.cells Z 37)).heap.size) := Lib.hid (by simp)
  clear g2 e1
  go_enter Tryd.func24, Tryd.ntmps24
  go_wp2
  obtain ⟨W0, hW0⟩ : ∃ W0, ((w.alloc (.cells #[.slice A1 32 c1, .slice A2 32 c2] 33)).alloc (.cells Z 37)) = W0 := ⟨_, rfl⟩
  rw [hW0] at HG1 HG2 HB HE
  rw [hW0]
  clear hW0
  refine region_calm ?_
  refine wp_region_any (by kernel_rfl) ?_
  change wpAny _ _ _ _ _ _ _ (World.drew W0)
  refine wpAny_of_held (S := KeysIn w.heap.size A1 c1 A2 c2) _ _ _ _ ?_
  refine wpAnyH_take (i := 0) (v := ?v0) rfl (by kernel_rfl) (by kernel_rfl) (by kernel_rfl) (fun _ _ _ h => h) (Or.inl ⟨by rfl, ?y0⟩) HG1.out ?r0
  case y0 => (intro w' hSw; clear hSw; go_simp; try with_reducible rfl)
  simp only [List.getElem_toArray, List.getElem_cons_succ, List.getElem_cons_zero, Act.put, List.setIfInBounds_toArray, List.set_cons_zero, List.set_cons_succ]
  refine wpAnyH_take (i := 1) (v := ?v1) rfl (by kernel_rfl) (by kernel_rfl) (by kernel_rfl) (fun _ _ _ h => h) (Or.inl ⟨by rfl, ?y1⟩) HG1.out ?r1
  case y1 => (intro w' hSw; have s1 := hSw.cell1; clear hSw; go_simp; try with_reducible rfl)
  simp only [List.getElem_toArray, List.getElem_cons_succ, List.getElem_cons_zero, Act.put, List.setIfInBounds_toArray, List.set_cons_zero, List.set_cons_succ]
  refine wpAnyH_take (i := 2) (v := ?v2) rfl (by kernel_rfl) (by kernel_rfl) (by kernel_rfl) (fun _ _ _ h => h) (Or.inl ⟨by rfl, ?y2⟩) HG1.out ?r2
  case y2 => (intro w' hSw; clear hSw; go_simp; try with_reducible rfl)
  simp only [List.getElem_toArray, List.getElem_cons_succ, List.getElem_cons_zero, Act.put, List.setIfInBounds_toArray, List.set_cons_zero, List.set_cons_succ]
  refine wpAnyH_ready (rs := [3]) (by kernel_rfl) (by simp) ?_
  refine AllReadyH.cons rfl (fun K hK => ?_) AllReadyH.nil
  simp only [List.getElem_toArray, List.getElem_cons_succ, List.getElem_cons_zero]
  go_simp
  refine (concat_all ad cc _ ls W0.drew ((HL.out.below HB.out).kept (Nat.le_refl _) fun _ _ _ => rfl) hK0 hK8 (by have := HM.out; omega)).mono ?_
  rintro e' w1 ⟨A3, n3, c3, rfl, hX3, hB1⟩
  have HB1 := Lib.hid (below_of_drew hB1)
  have HS1 := Lib.hid (HG1.out.below HB1.out)
  have HX3 := Lib.hid hX3.any
  have HN3 : Hid (n3 ≤ 100000) := Lib.hid (by rw [← hX3.len]; exact HM.out)
  clear hX3 hB1
  refine hK.out _ _ HS1.out (fun _ => ?_)
  clear hK
  try simp only [List.getElem_toArray, List.getElem_cons_succ, List.getElem_cons_zero, Act.put, List.setIfInBounds_toArray, List.set_cons_zero, List.set_cons_succ]
  have HB1w := Lib.hid (HB.out.trans (HB1.out.mono HB.out.size))
  refine wpAnyH_ready (rs := [4]) (by kernel_rfl) (by simp) ?_
  refine AllReadyH.cons rfl (fun K' hK => ?_) AllReadyH.nil
  simp only [List.getElem_toArray, List.getElem_cons_succ, List.getElem_cons_zero]
  go_simp
  refine (hmac_any A2 A3 kt _ 32 c2 n3 c3 _ (HT.out.below HB1w.out hlt) (HK.out.below HB1w.out) (by omega) HX3.out HN3.out).mono ?_
  rintro e' w2 ⟨g, cap, rfl, hown, hB2⟩
  rw [hr.out] at hown
  have HB2 := Lib.hid (HB1.out.trans (hB2.mono HB1.out.size))
  have HS2 := Lib.hid (HS1.out.below hB2)
  obtain ⟨A5, c5, he5, hX5⟩ := Txt.of_own hown HRX.out
  injection he5 with he5 _ he6
  subst he5 he6
  have HX5 := Lib.hid hX5
  clear hown hB2 hX5
  refine hK.out _ _ HS2.out (fun _ => ?_)
  clear hK
  try simp only [List.getElem_toArray, List.getElem_cons_succ, List.getElem_cons_zero, Act.put, List.setIfInBounds_toArray, List.set_cons_zero, List.set_cons_succ]
  have hat : ∀ w, (Instr.arrayAt 37 (.slice (some ⟨g, 0, none⟩) 32 cap)).run Tryd.prog w = .ok (.pointer (some ⟨g, 0, none⟩)) w := fun w => run_arrayAt w _ _ 32 _ 32 cap Tryd.underlying37 (by omega)
  refine wpAnyH_take (i := 5) (v := ?v5) rfl (by kernel_rfl) (by kernel_rfl) (by kernel_rfl) (fun _ _ _ h => h) (Or.inl ⟨by rfl, ?y5⟩) HS2.out ?r5
  case y5 => (intro w' hSw; clear hSw; go_simp; try with_reducible rfl)
  simp only [List.getElem_toArray, List.getElem_cons_succ, List.getElem_cons_zero, Act.put, List.setIfInBounds_toArray, List.set_cons_zero, List.set_cons_succ]
  clear hat
  refine wpAnyH_ready (rs := [6]) (by kernel_rfl) (by simp) ?_
  refine AllReadyH.cons rfl (fun K' hK => ?_) AllReadyH.nil
  simp only [List.getElem_toArray, List.getElem_cons_succ, List.getElem_cons_zero]
  refine step_of (by rfl) (wp_load_run 37 (.tmp 10) rfl ⟨g, 0, none⟩ (.agg (bcells r).toArray) rfl (load_tag HX5.out rfl HRL.out) (hK.out _ _ HS2.out (fun _ => ?_)))
  clear hK
  try simp only [List.getElem_toArray, List.getElem_cons_succ, List.getElem_cons_zero, Act.put, List.setIfInBounds_toArray, List.set_cons_zero, List.set_cons_succ]
  have HQ := Lib.hid ((HB2.out.block (w.heap.size + 1) (by have := HE.out; omega)).trans HG2.out)
  have HSR : Hid (KeysIn w.heap.size A1 c1 A2 c2 (w2.setRow (w.heap.size + 1) (bcells r).toArray)) := Lib.hid ((setRow_other _ _ _ _ (by omega)).trans HS2.out)
  refine wpAnyH_ready (rs := [7]) (by kernel_rfl) (by simp) ?_
  refine AllReadyH.cons rfl (fun K' hK => ?_) AllReadyH.nil
  simp only [List.getElem_toArray, List.getElem_cons_succ, List.getElem_cons_zero]
  refine step_of (by rfl) (wp_store_row 37 (.tmp 4) (.tmp 11) rfl _ (bcells r).toArray rfl rfl 37 Z HQ.out (tag_sized HRL.out) (by rw [HZ.out, List.size_toArray, bcells_len, HRL.out]) (bcells_all r) (hK.out _ _ HSR.out (fun _ => ?_)))
  clear hK
  try simp only [List.getElem_toArray, List.getElem_cons_succ, List.getElem_cons_zero, Act.put, List.setIfInBounds_toArray, List.set_cons_zero, List.set_cons_succ]
  refine wpAnyH_done (by kernel_rfl) ?_ _
  have HB3 := Lib.hid (HB.out.trans (HB2.out.mono HB.out.size))
  go_wp2
  refine bodyPost_ret (v := .agg (bcells r).toArray) (results_cell_row (p := 4) (ty := 37) (by kernel_rfl) _ _ (w.heap.size + 1) 37 (bcells r).toArray (0, 0) _ rfl (setRow_heap _ _ _ _ _ _ HQ.out) Tryd.underlying37 rfl (tag_sized HRL.out)) rfl ⟨rfl, below_setRow HB3.out (by omega) _⟩

set_option maxHeartbeats 2000000 in
set_option maxRecDepth 100000 in
theorem tagOf_any (A1 A2 : Option Addr) (c1 c2 : Nat) (kt a b : List Nat) (A B : Option Addr) (na ca nb cb : Nat) (w : World) (hT : Tabs w) (hK2 : Txt Any w A2 32 c2 kt) (hA : Txt Any w A na ca a) (hB : Txt Any w B nb cb b) (hma : na ≤ 32768) (hmb : nb ≤ 32768)
    (r : List Nat) (hr : Hid (tg kt a b = r)) :
    Calls Tryd.prog 15 #[.agg #[.slice A1 32 c1, .slice A2 32 c2], .slice A na ca, .slice B nb cb] w fun e w' => e = .returned (.agg (bcells r).toArray) ∧ Below w.heap.size w w' := by
  have hlt := hT.lt
  have HT := Lib.hid hT; have HK := Lib.hid hK2; have HA := Lib.hid hA; have HB' := Lib.hid hB; clear hT hK2 hA hB
  have HPT : Hid (putT a = (txB a, 0)) := Lib.hid (putT_yes (by rw [HA.out.len]; omega))
  have HRL : Hid (r.length = 32) := Lib.hid (by rw [← hr.out]; exact tg_len _ _ _)
  obtain ⟨Z, hz, hZ⟩ := zero_tag
  have HZ := Lib.hid hZ; clear hZ
  have e1 : (w.alloc (.cells #[.slice A1 32 c1, .slice A2 32 c2] 33)).heap.size = w.heap.size + 1 := by simp
  have HG1 : Hid (KeysIn w.heap.size A1 c1 A2 c2 ((w.alloc (.cells #[.slice A1 32 c1, .slice A2 32 c2] 33)).alloc (.cells Z 37))) :=
    Lib.hid ((Below.heap_alloc _ _ _ (by rw [e1]; omega)).trans (heap_alloc_last w _))
  have g2 := heap_alloc_last (w.alloc (.cells #[.slice A1 32 c1, .slice A2 32 c2] 33)) (.cells Z 37)
  rw [e1] at g2
  have HG2 := Lib.hid g2
  have HB := Lib.hid (((Below.refl w.heap.size w).alloc (Nat.le_refl _) (.cells #[.slice A1 32 c1, .slice A2 32 c2] 33)).alloc (by simp) (.cells Z 37))
  have HE : Hid (w.heap.size + 2 ≤ ((w.alloc (.cells #[.slice A1 32 c1, .slice A2 32 c2] 33)).alloc (.cells Z 37)).heap.size) := Lib.hid (by simp)
  clear g2 e1
  go_enter Tryd.func15, Tryd.ntmps15
  go_wp2_with fail
  obtain ⟨W0, hW0⟩ : ∃ W0, ((w.alloc (.cells #[.slice A1 32 c1, .slice A2 32 c2] 33)).alloc (.cells Z 37)) = W0 := ⟨_, rfl⟩
  rw [hW0] at HG1 HG2 HB HE
  rw [hW0]
  clear hW0
  refine (text_any A a na ca W0 (HT.out.below HB.out hlt).wr (HA.out.below HB.out) _ HPT).mono ?_
  rintro e' w1 ⟨A3, n3, c3, rfl, hX3, hB1⟩
  have HS1 := Lib.hid (HG1.out.below hB1)
  have HQ1 := Lib.hid ((hB1.block (w.heap.size + 1) (by have := HE.out; omega)).trans HG2.out)
  have HX3 := Lib.hid hX3.any
  have HN3 : Hid (n3 = szB na + na) := Lib.hid (by rw [← hX3.len, ← HA.out.len]; exact txB_len a)
  have hle : w.heap.size + 2 ≤ w1.heap.size := by have := hB1.size; have := HE.out; omega
  have HB1 := Lib.hid (HB.out.trans (hB1.mono HB.out.size))
  clear hX3 hB1
  have q0 := HS1.out.cell0
  have q1 := HS1.out.cell1
  have HL2 := Lib.hid (two_parts HX3.out (HB'.out.below HB1.out) 22)
  have HB2 := Lib.hid (HB1.out.alloc HB1.out.size (.cells #[.slice A3 n3 c3, .slice B nb cb] 22))
  have HQ2 := Lib.hid ((Below.heap_alloc w1 (.cells #[.slice A3 n3 c3, .slice B nb cb] 22) (w.heap.size + 1) (by omega)).trans HQ1.out)
  have hsz := szB_pos na
  go_wp2_with fail
  refine (mac_any A1 A2 c1 c2 kt ⟨w1.heap.size, 0, none⟩ 2 2 [txB a, b] _ (HT.out.below HB2.out hlt) (HK.out.below HB2.out) HL2.out (by omega) (by omega) (by have := HN3.out; have := HX3.out.len; have := HB'.out.len; simp only [List.flatten_cons, List.flatten_nil, List.length_append, List.append_nil]; omega) r (Lib.hid (by rw [← hr.out]; simp [tg]))).mono ?_
  rintro e' w3 ⟨rfl, hB3⟩
  have HQ3 := Lib.hid ((hB3.block (w.heap.size + 1) (by simp; omega)).trans HQ2.out)
  have HB3 := Lib.hid (HB2.out.trans (hB3.mono HB2.out.size))
  clear hB3 q0 q1
  go_wp2_with (refine wpList_store_row rfl 37 (.tmp 6) (.tmp 18) rfl (w.heap.size + 1) (bcells r).toArray rfl rfl 37 Z HQ3.out (tag_sized HRL.out) (by rw [HZ.out, List.size_toArray, bcells_len, HRL.out]) (bcells_all r) ?_)
  refine bodyPost_ret (v := .agg (bcells r).toArray) (results_cell_row (p := 6) (ty := 37) (by kernel_rfl) _ _ (w.heap.size + 1) 37 (bcells r).toArray (0, 0) _ rfl (setRow_heap _ _ _ _ _ _ HQ3.out) Tryd.underlying37 rfl (tag_sized HRL.out)) rfl ⟨rfl, below_setRow HB3.out (by omega) _⟩
end Go.Proofs.YtfhibjpkbbbfpaaDoor.Bx
