/- SchedLong: the walk. Written by tools/mk_sclong.py. -/
import Derived.Test.YtikafijdfgkgkaaDoorScWalkD
namespace Go.Proofs.YtikafijdfgkgkaaDoor.Sc
set_option linter.all false
open Go.RowKit
open Wr (Txt TxtL Any New bcells gt byteRow)

theorem sh_sum {l : List Nat} (h : 16000 < l.length) : sh (Sha.sum l) = sh l := by
  rw [sh_yes h, sh_no (by rw [Sha.sum_len]; omega)]
theorem jn_long {l o : List Nat} (h : 16000 < l.length) : jn (Sha.sum l) o (Sha.sum l) = jn l o l := by unfold jn; rw [sh_sum h]
theorem ep_long {l o : List Nat} (h : 16000 < l.length) : ep (Sha.sum l) o = ep l o := by
  have e : fst (Sha.sum l) = fst l := by unfold fst; rw [sh_sum h]
  have e2 : sec (Sha.sum l) o = sec l o := by unfold sec; rw [e]
  unfold ep; rw [e, e2]
theorem sm_long1 {l o : List Nat} (h : 16000 < l.length) : sm (Sha.sum l) o = sm l o := by unfold sm; rw [sh_sum h]
theorem sm_long2 {l o : List Nat} (h : 16000 < l.length) : sm o (Sha.sum l) = sm o l := by unfold sm; rw [sh_sum h]
/-- a long row: one byte, and bytes 0 -/
def row0 (b N : Nat) : List Nat := b :: List.replicate (N - 1) 0
theorem row0_len (b N : Nat) (h : 0 < N) : (row0 b N).length = N := by simp [row0]; omega
theorem gt_row0 (b N i : Nat) : gt (row0 b N) i = if i = 0 then b else 0 := by
  unfold row0 Wr.gt
  cases i with
  | zero => rfl
  | succ i =>
    rw [List.getD_eq_getElem?_getD, List.getElem?_cons_succ, List.getElem?_replicate]
    by_cases h : i < N - 1
    · rw [if_pos h]; rfl
    · rw [if_neg h]; rfl
theorem row0_lt (b N : Nat) (h : b < 256) : ∀ i, gt (row0 b N) i < 256 := fun i => by rw [gt_row0]; split <;> omega
theorem made_any (N : Nat) (hN : N ≤ 1000000) (W : World) : (Instr.makeSlice 22 (.int .i64 (N : Int)) (.int .i64 (N : Int))).run Tryd.prog W = .ok (.slice (some ⟨W.heap.size, 0, none⟩) N N) (W.alloc (.cells (madeCells #[.int .u8 0] N) 5)) :=
  run_make_row' 22 5 (.int .u8 0) 1 (by kernel_rfl) (by kernel_rfl) rfl .i64 .i64 N (by omega) (by omega) W

set_option maxHeartbeats 8000000 in
set_option maxRecDepth 100000 in
theorem schedLong_walk (more b : Int) (O : Option Addr) (o : List Nat) (on oc : Nat) (w : World) (hT : Tabs w) (hm : (Lit.int .u8 more).wf = true) (hb : (Lit.int .u8 b).wf = true) (hO : Txt Any w O on oc o) :
    Calls Tryd.prog 7 #[.int .u8 more, .int .u8 b, .slice O on oc] w fun e w' => e = .returned (.bool true) ∧ Below w.heap.size w w' := by
  obtain ⟨mm, rfl, hmm⟩ := Sha.byte_of_wf hm
  obtain ⟨bb, rfl, hbb⟩ := Sha.byte_of_wf hb
  have HT := Lib.hid hT; have HO := Lib.hid hO
  clear hT hO hm hb
  go_enter Tryd.func7, Tryd.ntmps7
  go_wp2_with fail
  refine (head_any _ HT.out).mono ?_
  rintro e' w1 ⟨rfl, hb⟩
  have B1 := Lib.hid hb
  clear hb
  by_cases h1 : 20000 < on
  case pos =>
    go_wp2_with fail
    refine (great_yes O on oc _ h1).mono ?_
    rintro e' w2 ⟨rfl, rfl⟩
    go_wp2
    go_ret
    exact ⟨rfl, B1.out⟩
  go_wp2_with fail
  refine (great_no O on oc _ (by omega)).mono ?_
  rintro e' w2 ⟨rfl, rfl⟩
  obtain ⟨N, hN⟩ : ∃ N : Nat, 16001 + mm = N := ⟨_, rfl⟩
  have hmk := made_any N (by omega) w1
  have yN : (16001 + (mm : Int)) = (N : Int) := by omega
  have r0 := World.rowIs_made w1 (.int .u8 0) N 5
  have ba := (Below.refl w1.heap.size w1).alloc (Nat.le_refl _) (.cells (madeCells #[.int .u8 0] N) 5)
  obtain ⟨w2, hw2⟩ : ∃ W, w1.alloc (.cells (madeCells #[.int .u8 0] N) 5) = W := ⟨_, rfl⟩
  obtain ⟨g, hg⟩ : ∃ g, w1.heap.size = g := ⟨_, rfl⟩
  rw [hw2] at r0 ba hmk
  rw [hg] at r0 hmk
  have c0 : w2.cell? ⟨g, 0, none⟩ = some (.int .u8 0) := r0.cell (by omega)
  have f0 := r0.frozen 0
  have r1 := r0.set 0 (.int .u8 (bb : Int))
  have bs := Below.heap_setCell w2 ⟨g, 0, none⟩ (.int .u8 (bb : Int))
  have b3 : Below w1.heap.size w1 (w2.setCell ⟨g, 0, none⟩ (.int .u8 (bb : Int))) := ba.setCell (by show w1.heap.size ≤ g; omega) _
  obtain ⟨w3, hw3⟩ : ∃ W, w2.setCell ⟨g, 0, none⟩ (.int .u8 (bb : Int)) = W := ⟨_, rfl⟩
  rw [hw3] at r1 b3
  have hl : (row0 bb N).length = N := row0_len bb N (by omega)
  have hx : Txt Any w3 (some ⟨g, 0, none⟩) N N (row0 bb N) := by
    refine (Txt.of_row (base := 0) ?_ hl (row0_lt bb N hbb) (Nat.zero_le _) (by omega)).any
    refine r1.congr fun i hi => ?_
    show (if i = 0 then Value.int .u8 (bb : Int) else .int .u8 0) = Value.int .u8 ((gt (row0 bb N) i : Nat) : Int)
    rw [gt_row0]
    split <;> rfl
  obtain ⟨L, hL⟩ : ∃ L, row0 bb N = L := ⟨_, rfl⟩
  rw [hL] at hx hl
  have B3 := Lib.hid (B1.out.trans (b3.mono B1.out.size))
  have X3 := Lib.hid hx
  clear r0 r1 ba bs b3 hx hL
  go_wp2_with fail
  try rw [hw3]
  refine (sum_any (some ⟨g, 0, none⟩) L N N w3 (HT.out.at B3.out) X3.out (by omega)).mono ?_
  rintro e' w5 ⟨SA, sm', sd, rfl, hX, hb⟩
  obtain rfl : sm' = 32 := by rw [← hX.2.1]; exact Sha.sum_len _
  obtain ⟨s, hs⟩ : ∃ s, Sha.sum L = s := ⟨_, rfl⟩
  rw [hs] at hX
  have HBa : Hid (Below w.heap.size w w5.drew) := Lib.hid (B3.out.trans (hb.mono B3.out.size)).drew
  have HTwa : Hid (Tabs w5.drew) := Lib.hid (HT.out.at HBa.out)
  have HLwa : Hid (Txt Any w5.drew (some ⟨g, 0, none⟩) N N L) := Lib.hid (X3.out.below hb.drew)
  have HSswa : Hid (Txt Any w5.drew SA 32 sd s) := Lib.hid hX.any
  have HOwa : Hid (Txt Any w5.drew O on oc o) := Lib.hid (HO.out.below HBa.out)
  have e2 : jn s o s = jn L o L := by rw [← hs]; exact jn_long (by omega)
  have e4 : ep s o = ep L o := by rw [← hs]; exact ep_long (by omega)
  have e5 : sm s o = sm L o := by rw [← hs]; exact sm_long1 (by omega)
  have e6 : sm o s = sm o L := by rw [← hs]; exact sm_long2 (by omega)
  obtain ⟨V1, hV1⟩ : ∃ v, jn L o L = v := ⟨_, rfl⟩
  obtain ⟨V2, hV2⟩ : ∃ v, sm L o = v := ⟨_, rfl⟩
  obtain ⟨V3, hV3⟩ : ∃ v, sm o L = v := ⟨_, rfl⟩
  rw [hV1] at e2
  rw [hV2] at e5
  rw [hV3] at e6
  have HE1 := Lib.hid hV1; have HE2 := Lib.hid e2; have HEP := Lib.hid e4; have HE3 := Lib.hid hV2; have HE4 := Lib.hid e5; have HE5 := Lib.hid hV3; have HE6 := Lib.hid e6
  obtain ⟨T1, hT1⟩ : ∃ v, Wr.txt V1 = v := ⟨_, rfl⟩
  obtain ⟨T2, hT2⟩ : ∃ v, Wr.txt V2 = v := ⟨_, rfl⟩
  obtain ⟨T3, hT3⟩ : ∃ v, Wr.txt V3 = v := ⟨_, rfl⟩
  have HS1 := Lib.hid hT1; have HS2 := Lib.hid hT2; have HS3 := Lib.hid hT3
  clear hX hb e2 e4 e5 e6 hV1 hV2 hV3 hT1 hT2 hT3 hs hl X3 B1 HT HO c0 f0 hmk
  go_wp2_with fail
  clear hw2 hw3 hg
  try simp only [Act.put]
  refine Wr.region_calm ?_
  refine wp_region_any (by kernel_rfl) ?_
  change wpAny _ _ _ _ _ _ _ (World.drew w5)
  generalize World.drew w5 = wa at *
  have HSwa : Hid (Below wa.heap.size wa wa) := Lib.hid (Below.refl _ _)
  refine wpAny_of_held (S := fun W => Below wa.heap.size wa W) _ _ _ _ ?_
  refine wpAnyH_take (i := 0) (v := ?ve1) rfl (by kernel_rfl) (by kernel_rfl) (by kernel_rfl) (fun _ _ _ h => h) (Or.inl ⟨by rfl, ?ye1⟩) HSwa.out ?re1
  case ye1 => (intro w' hSw; clear hSw; go_simp; try with_reducible rfl)
  simp only [List.getElem_toArray, List.getElem_cons_succ, List.getElem_cons_zero, Act.put, List.setIfInBounds_toArray, List.set_cons_zero, List.set_cons_succ]
  refine wpAnyH_take (i := 1) (v := ?ve2) rfl (by kernel_rfl) (by kernel_rfl) (by kernel_rfl) (fun _ _ _ h => h) (Or.inl ⟨by rfl, ?ye2⟩) HSwa.out ?re2
  case ye2 => (intro w' hSw; clear hSw; go_simp; try with_reducible rfl)
  simp only [List.getElem_toArray, List.getElem_cons_succ, List.getElem_cons_zero, Act.put, List.setIfInBounds_toArray, List.set_cons_zero, List.set_cons_succ]
  refine wpAnyH_take (i := 2) (v := ?ve3) rfl (by kernel_rfl) (by kernel_rfl) (by kernel_rfl) (fun _ _ _ h => h) (Or.inl ⟨by rfl, ?ye3⟩) HSwa.out ?re3
  case ye3 => (intro w' hSw; clear hSw; go_simp; try with_reducible rfl)
  simp only [List.getElem_toArray, List.getElem_cons_succ, List.getElem_cons_zero, Act.put, List.setIfInBounds_toArray, List.set_cons_zero, List.set_cons_succ]
  refine wpAnyH_take (i := 5) (v := ?ve4) rfl (by kernel_rfl) (by kernel_rfl) (by kernel_rfl) (fun _ _ _ h => h) (Or.inl ⟨by rfl, ?ye4⟩) HSwa.out ?re4
  case ye4 => (intro w' hSw; clear hSw; go_simp; try with_reducible rfl)
  simp only [List.getElem_toArray, List.getElem_cons_succ, List.getElem_cons_zero, Act.put, List.setIfInBounds_toArray, List.set_cons_zero, List.set_cons_succ]
  refine wpAnyH_take (i := 6) (v := ?ve5) rfl (by kernel_rfl) (by kernel_rfl) (by kernel_rfl) (fun _ _ _ h => h) (Or.inl ⟨by rfl, ?ye5⟩) HSwa.out ?re5
  case ye5 => (intro w' hSw; clear hSw; go_simp; try with_reducible rfl)
  simp only [List.getElem_toArray, List.getElem_cons_succ, List.getElem_cons_zero, Act.put, List.setIfInBounds_toArray, List.set_cons_zero, List.set_cons_succ]
  refine wpAnyH_take (i := 7) (v := ?ve6) rfl (by kernel_rfl) (by kernel_rfl) (by kernel_rfl) (fun _ _ _ h => h) (Or.inl ⟨by rfl, ?ye6⟩) HSwa.out ?re6
  case ye6 => (intro w' hSw; clear hSw; go_simp; try with_reducible rfl)
  simp only [List.getElem_toArray, List.getElem_cons_succ, List.getElem_cons_zero, Act.put, List.setIfInBounds_toArray, List.set_cons_zero, List.set_cons_succ]
  refine wpAnyH_ready (rs := [3]) (by kernel_rfl) (by simp) ?_
  refine AllReadyH.cons rfl (fun K' hK => ?_) AllReadyH.nil
  simp only [List.getElem_toArray, List.getElem_cons_succ, List.getElem_cons_zero]
  go_simp
  refine (joiner_any (some ⟨g, 0, none⟩) O (some ⟨g, 0, none⟩) L o L N N on oc N N _ HTwa.out HLwa.out HOwa.out HLwa.out (by omega) (by omega) (by omega)).mono ?_
  rintro e' a1 ⟨X1, m1, d1, rfl, hX, hb⟩
  have HU_wa_a1 := Lib.hid hb
  rw [HE1.out] at hX
  have HX1 := Lib.hid hX.any
  clear hX
  refine hK.out _ _ HU_wa_a1.out (fun _ => ?_)
  clear hK
  try simp only [List.getElem_toArray, List.getElem_cons_succ, List.getElem_cons_zero, Act.put, List.setIfInBounds_toArray, List.set_cons_zero, List.set_cons_succ]
  have HSa1 : Hid (Below a1.heap.size a1 a1) := Lib.hid (Below.refl _ _)
  refine Sha.wpAnyH_more (S' := fun W => Below a1.heap.size a1 W) (fun W h => HU_wa_a1.out.trans (h.mono HU_wa_a1.out.size)) _ _ _ _ ?_
  refine wpAnyH_take (i := 4) (v := ?ve7) rfl (by kernel_rfl) (by kernel_rfl) (by kernel_rfl) (fun _ _ _ h => h) (Or.inl ⟨by rfl, ?ye7⟩) HSa1.out ?re7
  case ye7 => (intro w' hSw; have hq_a1 : Below a1.heap.size a1 w' := hSw; have hq_wa : Below wa.heap.size wa w' := HU_wa_a1.out.trans (hSw.mono HU_wa_a1.out.size); have hq := hq_wa; have cc := (HX1.out.below hq_a1).conv; rw [HS1.out] at cc; clear hSw; try clear hq hq_wa hq_a1; go_simp; try with_reducible rfl)
  simp only [List.getElem_toArray, List.getElem_cons_succ, List.getElem_cons_zero, Act.put, List.setIfInBounds_toArray, List.set_cons_zero, List.set_cons_succ]
  refine wpAnyH_ready (rs := [8]) (by kernel_rfl) (by simp) ?_
  refine AllReadyH.cons rfl (fun K' hK => ?_) AllReadyH.nil
  simp only [List.getElem_toArray, List.getElem_cons_succ, List.getElem_cons_zero]
  go_simp
  refine (joiner_any SA O SA s o s 32 sd on oc 32 sd _ (HTwa.out.at HU_wa_a1.out) (HSswa.out.below HU_wa_a1.out) (HOwa.out.below HU_wa_a1.out) (HSswa.out.below HU_wa_a1.out) (by omega) (by omega) (by omega)).mono ?_
  rintro e' a2 ⟨X2, m2, d2, rfl, hX, hb⟩
  have HU_a1_a2 := Lib.hid hb
  rw [HE2.out] at hX
  have HX2 := Lib.hid hX.any
  clear hX
  have HU_wa_a2 := Lib.hid (HU_wa_a1.out.trans (HU_a1_a2.out.mono HU_wa_a1.out.size))
  refine hK.out _ _ HU_a1_a2.out (fun _ => ?_)
  clear hK
  try simp only [List.getElem_toArray, List.getElem_cons_succ, List.getElem_cons_zero, Act.put, List.setIfInBounds_toArray, List.set_cons_zero, List.set_cons_succ]
  have HSa2 : Hid (Below a2.heap.size a2 a2) := Lib.hid (Below.refl _ _)
  refine Sha.wpAnyH_more (S' := fun W => Below a2.heap.size a2 W) (fun W h => HU_a1_a2.out.trans (h.mono HU_a1_a2.out.size)) _ _ _ _ ?_
  refine wpAnyH_take (i := 9) (v := ?ve8) rfl (by kernel_rfl) (by kernel_rfl) (by kernel_rfl) (fun _ _ _ h => h) (Or.inl ⟨by rfl, ?ye8⟩) HSa2.out ?re8
  case ye8 => (intro w' hSw; have hq_a2 : Below a2.heap.size a2 w' := hSw; have hq_a1 : Below a1.heap.size a1 w' := HU_a1_a2.out.trans (hSw.mono HU_a1_a2.out.size); have hq_wa : Below wa.heap.size wa w' := HU_wa_a2.out.trans (hSw.mono HU_wa_a2.out.size); have hq := hq_wa; have cc := (HX2.out.below hq_a2).conv; rw [HS1.out] at cc; clear hSw; try clear hq hq_wa hq_a1 hq_a2; go_simp; try with_reducible rfl)
  simp only [List.getElem_toArray, List.getElem_cons_succ, List.getElem_cons_zero, Act.put, List.setIfInBounds_toArray, List.set_cons_zero, List.set_cons_succ]
  refine wpAnyH_take (i := 10) (v := ?ve9) rfl (by kernel_rfl) (by kernel_rfl) (by kernel_rfl) (fun _ _ _ h => h) (Or.inl ⟨by rfl, ?ye9⟩) HSa2.out ?re9
  case ye9 => (intro w' hSw; clear hSw; go_simp; try with_reducible rfl)
  simp only [List.getElem_toArray, List.getElem_cons_succ, List.getElem_cons_zero, Act.put, List.setIfInBounds_toArray, List.set_cons_zero, List.set_cons_succ]
  refine wpAnyH_take (i := 11) (v := ?ve10) rfl (by kernel_rfl) (by kernel_rfl) (by kernel_rfl) (fun _ _ _ h => h) (Or.inl ⟨by rfl, ?ye10⟩) HSa2.out ?re10
  case ye10 => (intro w' hSw; clear hSw; go_simp; try with_reducible rfl)
  simp only [List.getElem_toArray, List.getElem_cons_succ, List.getElem_cons_zero, Act.put, List.setIfInBounds_toArray, List.set_cons_zero, List.set_cons_succ]
  refine wpAnyH_take (i := 12) (v := ?ve11) rfl (by kernel_rfl) (by kernel_rfl) (by kernel_rfl) (fun _ _ _ h => h) (Or.inl ⟨by rfl, ?ye11⟩) HSa2.out ?re11
  case ye11 => (intro w' hSw; clear hSw; go_simp; try with_reducible rfl)
  simp only [List.getElem_toArray, List.getElem_cons_succ, List.getElem_cons_zero, Act.put, List.setIfInBounds_toArray, List.set_cons_zero, List.set_cons_succ]
  refine wpAnyH_take (i := 13) (v := ?ve12) rfl (by kernel_rfl) (by kernel_rfl) (by kernel_rfl) (fun _ _ _ h => h) (Or.inl ⟨by rfl, ?ye12⟩) HSa2.out ?re12
  case ye12 => (intro w' hSw; clear hSw; go_simp; try with_reducible rfl)
  simp only [List.getElem_toArray, List.getElem_cons_succ, List.getElem_cons_zero, Act.put, List.setIfInBounds_toArray, List.set_cons_zero, List.set_cons_succ]
  refine wpAnyH_take (i := 15) (v := ?ve13) rfl (by kernel_rfl) (by kernel_rfl) (by kernel_rfl) (fun _ _ _ h => h) (Or.inl ⟨by rfl, ?ye13⟩) HSa2.out ?re13
  case ye13 => (intro w' hSw; clear hSw; go_simp; try with_reducible rfl)
  simp only [List.getElem_toArray, List.getElem_cons_succ, List.getElem_cons_zero, Act.put, List.setIfInBounds_toArray, List.set_cons_zero, List.set_cons_succ]
  refine wpAnyH_take (i := 16) (v := ?ve14) rfl (by kernel_rfl) (by kernel_rfl) (by kernel_rfl) (fun _ _ _ h => h) (Or.inl ⟨by rfl, ?ye14⟩) HSa2.out ?re14
  case ye14 => (intro w' hSw; clear hSw; go_simp; try with_reducible rfl)
  simp only [List.getElem_toArray, List.getElem_cons_succ, List.getElem_cons_zero, Act.put, List.setIfInBounds_toArray, List.set_cons_zero, List.set_cons_succ]
  refine wpAnyH_ready (rs := [14]) (by kernel_rfl) (by simp) ?_
  refine AllReadyH.cons rfl (fun K' hK => ?_) AllReadyH.nil
  simp only [List.getElem_toArray, List.getElem_cons_succ, List.getElem_cons_zero]
  go_simp
  refine (derive_any (some ⟨g, 0, none⟩) O L o N N on oc _ (HTwa.out.at HU_wa_a2.out) (HLwa.out.below HU_wa_a2.out) (HOwa.out.below HU_wa_a2.out) (by omega) (by omega)).mono ?_
  rintro e' a3 ⟨q1, rfl, hE, hb⟩
  have HU_a2_a3 := Lib.hid hb
  have HP1 := Lib.hid hE.any
  clear hE
  have HU_a1_a3 := Lib.hid (HU_a1_a2.out.trans (HU_a2_a3.out.mono HU_a1_a2.out.size))
  have HU_wa_a3 := Lib.hid (HU_wa_a2.out.trans (HU_a2_a3.out.mono HU_wa_a2.out.size))
  refine hK.out _ _ HU_a2_a3.out (fun _ => ?_)
  clear hK
  try simp only [List.getElem_toArray, List.getElem_cons_succ, List.getElem_cons_zero, Act.put, List.setIfInBounds_toArray, List.set_cons_zero, List.set_cons_succ]
  have HSa3 : Hid (Below a3.heap.size a3 a3) := Lib.hid (Below.refl _ _)
  refine Sha.wpAnyH_more (S' := fun W => Below a3.heap.size a3 W) (fun W h => HU_a2_a3.out.trans (h.mono HU_a2_a3.out.size)) _ _ _ _ ?_
  refine wpAnyH_ready (rs := [17]) (by kernel_rfl) (by simp) ?_
  refine AllReadyH.cons rfl (fun K' hK => ?_) AllReadyH.nil
  simp only [List.getElem_toArray, List.getElem_cons_succ, List.getElem_cons_zero]
  go_simp
  refine (derive_any SA O s o 32 sd on oc _ (HTwa.out.at HU_wa_a3.out) (HSswa.out.below HU_wa_a3.out) (HOwa.out.below HU_wa_a3.out) (by omega) (by omega)).mono ?_
  rintro e' a4 ⟨q2, rfl, hE, hb⟩
  have HU_a3_a4 := Lib.hid hb
  rw [HEP.out] at hE
  have HP2 := Lib.hid hE.any; have HP1' := Lib.hid (HP1.out.below hb)
  clear hE
  have HU_a2_a4 := Lib.hid (HU_a2_a3.out.trans (HU_a3_a4.out.mono HU_a2_a3.out.size))
  have HU_a1_a4 := Lib.hid (HU_a1_a3.out.trans (HU_a3_a4.out.mono HU_a1_a3.out.size))
  have HU_wa_a4 := Lib.hid (HU_wa_a3.out.trans (HU_a3_a4.out.mono HU_wa_a3.out.size))
  refine hK.out _ _ HU_a3_a4.out (fun _ => ?_)
  clear hK
  try simp only [List.getElem_toArray, List.getElem_cons_succ, List.getElem_cons_zero, Act.put, List.setIfInBounds_toArray, List.set_cons_zero, List.set_cons_succ]
  have HSa4 : Hid (Below a4.heap.size a4 a4) := Lib.hid (Below.refl _ _)
  refine Sha.wpAnyH_more (S' := fun W => Below a4.heap.size a4 W) (fun W h => HU_a3_a4.out.trans (h.mono HU_a3_a4.out.size)) _ _ _ _ ?_
  refine wpAnyH_ready (rs := [18]) (by kernel_rfl) (by simp) ?_
  refine AllReadyH.cons rfl (fun K' hK => ?_) AllReadyH.nil
  simp only [List.getElem_toArray, List.getElem_cons_succ, List.getElem_cons_zero]
  go_simp
  refine (same_true q1 q2 (ep L o) a4 HP1'.out HP2.out).mono ?_
  rintro e' a5 ⟨rfl, hb⟩
  have HU_a4_a5 := Lib.hid hb
  have HU_a3_a5 := Lib.hid (HU_a3_a4.out.trans (HU_a4_a5.out.mono HU_a3_a4.out.size))
  have HU_a2_a5 := Lib.hid (HU_a2_a4.out.trans (HU_a4_a5.out.mono HU_a2_a4.out.size))
  have HU_a1_a5 := Lib.hid (HU_a1_a4.out.trans (HU_a4_a5.out.mono HU_a1_a4.out.size))
  have HU_wa_a5 := Lib.hid (HU_wa_a4.out.trans (HU_a4_a5.out.mono HU_wa_a4.out.size))
  refine hK.out _ _ HU_a4_a5.out (fun _ => ?_)
  clear hK
  try simp only [List.getElem_toArray, List.getElem_cons_succ, List.getElem_cons_zero, Act.put, List.setIfInBounds_toArray, List.set_cons_zero, List.set_cons_succ]
  have HSa5 : Hid (Below a5.heap.size a5 a5) := Lib.hid (Below.refl _ _)
  refine Sha.wpAnyH_more (S' := fun W => Below a5.heap.size a5 W) (fun W h => HU_a4_a5.out.trans (h.mono HU_a4_a5.out.size)) _ _ _ _ ?_
  refine wpAnyH_take (i := 19) (v := ?ve15) rfl (by kernel_rfl) (by kernel_rfl) (by kernel_rfl) (fun _ _ _ h => h) (Or.inl ⟨by rfl, ?ye15⟩) HSa5.out ?re15
  case ye15 => (intro w' hSw; clear hSw; go_simp; try with_reducible rfl)
  simp only [List.getElem_toArray, List.getElem_cons_succ, List.getElem_cons_zero, Act.put, List.setIfInBounds_toArray, List.set_cons_zero, List.set_cons_succ]
  refine wpAnyH_take (i := 20) (v := ?ve16) rfl (by kernel_rfl) (by kernel_rfl) (by kernel_rfl) (fun _ _ _ h => h) (Or.inl ⟨by rfl, ?ye16⟩) HSa5.out ?re16
  case ye16 => (intro w' hSw; clear hSw; go_simp; try with_reducible rfl)
  simp only [List.getElem_toArray, List.getElem_cons_succ, List.getElem_cons_zero, Act.put, List.setIfInBounds_toArray, List.set_cons_zero, List.set_cons_succ]
  refine wpAnyH_done (by kernel_rfl) ?_ _
  change Exit.then _ _ Exit.normal _ _
  have HBe : Hid (Below wa.heap.size wa a5.drew) := Lib.hid HU_wa_a5.out.drew
  have HTwb : Hid (Tabs a5.drew) := Lib.hid (HTwa.out.at HBe.out)
  have HLwb : Hid (Txt Any a5.drew (some ⟨g, 0, none⟩) N N L) := Lib.hid (HLwa.out.below HBe.out)
  have HSswb : Hid (Txt Any a5.drew SA 32 sd s) := Lib.hid (HSswa.out.below HBe.out)
  have HOwb : Hid (Txt Any a5.drew O on oc o) := Lib.hid (HOwa.out.below HBe.out)
  have HBf : Hid (Below w.heap.size w a5.drew) := Lib.hid (HBa.out.trans (HBe.out.mono HBa.out.size))
  go_wp2_with fail
  try simp only [Act.put]
  refine Wr.region_calm ?_
  refine wp_region_any (by kernel_rfl) ?_
  change wpAny _ _ _ _ _ _ _ (World.drew a5)
  generalize World.drew a5 = wb at *
  have HSwb : Hid (Below wb.heap.size wb wb) := Lib.hid (Below.refl _ _)
  refine wpAny_of_held (S := fun W => Below wb.heap.size wb W) _ _ _ _ ?_
  refine wpAnyH_take (i := 0) (v := ?ve17) rfl (by kernel_rfl) (by kernel_rfl) (by kernel_rfl) (fun _ _ _ h => h) (Or.inl ⟨by rfl, ?ye17⟩) HSwb.out ?re17
  case ye17 => (intro w' hSw; clear hSw; go_simp; try with_reducible rfl)
  simp only [List.getElem_toArray, List.getElem_cons_succ, List.getElem_cons_zero, Act.put, List.setIfInBounds_toArray, List.set_cons_zero, List.set_cons_succ]
  refine wpAnyH_take (i := 1) (v := ?ve18) rfl (by kernel_rfl) (by kernel_rfl) (by kernel_rfl) (fun _ _ _ h => h) (Or.inl ⟨by rfl, ?ye18⟩) HSwb.out ?re18
  case ye18 => (intro w' hSw; clear hSw; go_simp; try with_reducible rfl)
  simp only [List.getElem_toArray, List.getElem_cons_succ, List.getElem_cons_zero, Act.put, List.setIfInBounds_toArray, List.set_cons_zero, List.set_cons_succ]
  refine wpAnyH_take (i := 2) (v := ?ve19) rfl (by kernel_rfl) (by kernel_rfl) (by kernel_rfl) (fun _ _ _ h => h) (Or.inl ⟨by rfl, ?ye19⟩) HSwb.out ?re19
  case ye19 => (intro w' hSw; clear hSw; go_simp; try with_reducible rfl)
  simp only [List.getElem_toArray, List.getElem_cons_succ, List.getElem_cons_zero, Act.put, List.setIfInBounds_toArray, List.set_cons_zero, List.set_cons_succ]
  refine wpAnyH_take (i := 3) (v := ?ve20) rfl (by kernel_rfl) (by kernel_rfl) (by kernel_rfl) (fun _ _ _ h => h) (Or.inl ⟨by rfl, ?ye20⟩) HSwb.out ?re20
  case ye20 => (intro w' hSw; clear hSw; go_simp; try with_reducible rfl)
  simp only [List.getElem_toArray, List.getElem_cons_succ, List.getElem_cons_zero, Act.put, List.setIfInBounds_toArray, List.set_cons_zero, List.set_cons_succ]
  refine wpAnyH_take (i := 4) (v := ?ve21) rfl (by kernel_rfl) (by kernel_rfl) (by kernel_rfl) (fun _ _ _ h => h) (Or.inl ⟨by rfl, ?ye21⟩) HSwb.out ?re21
  case ye21 => (intro w' hSw; clear hSw; go_simp; try with_reducible rfl)
  simp only [List.getElem_toArray, List.getElem_cons_succ, List.getElem_cons_zero, Act.put, List.setIfInBounds_toArray, List.set_cons_zero, List.set_cons_succ]
  refine wpAnyH_take (i := 5) (v := ?ve22) rfl (by kernel_rfl) (by kernel_rfl) (by kernel_rfl) (fun _ _ _ h => h) (Or.inl ⟨by rfl, ?ye22⟩) HSwb.out ?re22
  case ye22 => (intro w' hSw; clear hSw; go_simp; try with_reducible rfl)
  simp only [List.getElem_toArray, List.getElem_cons_succ, List.getElem_cons_zero, Act.put, List.setIfInBounds_toArray, List.set_cons_zero, List.set_cons_succ]
  refine wpAnyH_take (i := 6) (v := ?ve23) rfl (by kernel_rfl) (by kernel_rfl) (by kernel_rfl) (fun _ _ _ h => h) (Or.inl ⟨by rfl, ?ye23⟩) HSwb.out ?re23
  case ye23 => (intro w' hSw; clear hSw; go_simp; try with_reducible rfl)
  simp only [List.getElem_toArray, List.getElem_cons_succ, List.getElem_cons_zero, Act.put, List.setIfInBounds_toArray, List.set_cons_zero, List.set_cons_succ]
  refine wpAnyH_take (i := 9) (v := ?ve24) rfl (by kernel_rfl) (by kernel_rfl) (by kernel_rfl) (fun _ _ _ h => h) (Or.inl ⟨by rfl, ?ye24⟩) HSwb.out ?re24
  case ye24 => (intro w' hSw; clear hSw; go_simp; try with_reducible rfl)
  simp only [List.getElem_toArray, List.getElem_cons_succ, List.getElem_cons_zero, Act.put, List.setIfInBounds_toArray, List.set_cons_zero, List.set_cons_succ]
  refine wpAnyH_take (i := 10) (v := ?ve25) rfl (by kernel_rfl) (by kernel_rfl) (by kernel_rfl) (fun _ _ _ h => h) (Or.inl ⟨by rfl, ?ye25⟩) HSwb.out ?re25
  case ye25 => (intro w' hSw; clear hSw; go_simp; try with_reducible rfl)
  simp only [List.getElem_toArray, List.getElem_cons_succ, List.getElem_cons_zero, Act.put, List.setIfInBounds_toArray, List.set_cons_zero, List.set_cons_succ]
  refine wpAnyH_ready (rs := [7]) (by kernel_rfl) (by simp) ?_
  refine AllReadyH.cons rfl (fun K' hK => ?_) AllReadyH.nil
  simp only [List.getElem_toArray, List.getElem_cons_succ, List.getElem_cons_zero]
  go_simp
  refine (confirmed_any (some ⟨g, 0, none⟩) O L o N N on oc _ HTwb.out HLwb.out HOwb.out (by omega) (by omega)).mono ?_
  rintro e' b1 ⟨X3, m3, d3, rfl, hX, hb⟩
  have HU_wb_b1 := Lib.hid hb
  rw [HE3.out] at hX
  have HX3 := Lib.hid hX.any
  clear hX
  refine hK.out _ _ HU_wb_b1.out (fun _ => ?_)
  clear hK
  try simp only [List.getElem_toArray, List.getElem_cons_succ, List.getElem_cons_zero, Act.put, List.setIfInBounds_toArray, List.set_cons_zero, List.set_cons_succ]
  have HSb1 : Hid (Below b1.heap.size b1 b1) := Lib.hid (Below.refl _ _)
  refine Sha.wpAnyH_more (S' := fun W => Below b1.heap.size b1 W) (fun W h => HU_wb_b1.out.trans (h.mono HU_wb_b1.out.size)) _ _ _ _ ?_
  refine wpAnyH_take (i := 8) (v := ?ve26) rfl (by kernel_rfl) (by kernel_rfl) (by kernel_rfl) (fun _ _ _ h => h) (Or.inl ⟨by rfl, ?ye26⟩) HSb1.out ?re26
  case ye26 => (intro w' hSw; have hq_b1 : Below b1.heap.size b1 w' := hSw; have hq_wb : Below wb.heap.size wb w' := HU_wb_b1.out.trans (hSw.mono HU_wb_b1.out.size); have hq := hq_wb; have cc := (HX3.out.below hq_b1).conv; rw [HS2.out] at cc; clear hSw; try clear hq hq_wb hq_b1; go_simp; try with_reducible rfl)
  simp only [List.getElem_toArray, List.getElem_cons_succ, List.getElem_cons_zero, Act.put, List.setIfInBounds_toArray, List.set_cons_zero, List.set_cons_succ]
  refine wpAnyH_ready (rs := [11]) (by kernel_rfl) (by simp) ?_
  refine AllReadyH.cons rfl (fun K' hK => ?_) AllReadyH.nil
  simp only [List.getElem_toArray, List.getElem_cons_succ, List.getElem_cons_zero]
  go_simp
  refine (confirmed_any SA O s o 32 sd on oc _ (HTwb.out.at HU_wb_b1.out) (HSswb.out.below HU_wb_b1.out) (HOwb.out.below HU_wb_b1.out) (by omega) (by omega)).mono ?_
  rintro e' b2 ⟨X4, m4, d4, rfl, hX, hb⟩
  have HU_b1_b2 := Lib.hid hb
  rw [HE4.out] at hX
  have HX4 := Lib.hid hX.any
  clear hX
  have HU_wb_b2 := Lib.hid (HU_wb_b1.out.trans (HU_b1_b2.out.mono HU_wb_b1.out.size))
  refine hK.out _ _ HU_b1_b2.out (fun _ => ?_)
  clear hK
  try simp only [List.getElem_toArray, List.getElem_cons_succ, List.getElem_cons_zero, Act.put, List.setIfInBounds_toArray, List.set_cons_zero, List.set_cons_succ]
  have HSb2 : Hid (Below b2.heap.size b2 b2) := Lib.hid (Below.refl _ _)
  refine Sha.wpAnyH_more (S' := fun W => Below b2.heap.size b2 W) (fun W h => HU_b1_b2.out.trans (h.mono HU_b1_b2.out.size)) _ _ _ _ ?_
  refine wpAnyH_take (i := 12) (v := ?ve27) rfl (by kernel_rfl) (by kernel_rfl) (by kernel_rfl) (fun _ _ _ h => h) (Or.inl ⟨by rfl, ?ye27⟩) HSb2.out ?re27
  case ye27 => (intro w' hSw; have hq_b2 : Below b2.heap.size b2 w' := hSw; have hq_b1 : Below b1.heap.size b1 w' := HU_b1_b2.out.trans (hSw.mono HU_b1_b2.out.size); have hq_wb : Below wb.heap.size wb w' := HU_wb_b2.out.trans (hSw.mono HU_wb_b2.out.size); have hq := hq_wb; have cc := (HX4.out.below hq_b2).conv; rw [HS2.out] at cc; clear hSw; try clear hq hq_wb hq_b1 hq_b2; go_simp; try with_reducible rfl)
  simp only [List.getElem_toArray, List.getElem_cons_succ, List.getElem_cons_zero, Act.put, List.setIfInBounds_toArray, List.set_cons_zero, List.set_cons_succ]
  refine wpAnyH_take (i := 13) (v := ?ve28) rfl (by kernel_rfl) (by kernel_rfl) (by kernel_rfl) (fun _ _ _ h => h) (Or.inl ⟨by rfl, ?ye28⟩) HSb2.out ?re28
  case ye28 => (intro w' hSw; clear hSw; go_simp; try with_reducible rfl)
  simp only [List.getElem_toArray, List.getElem_cons_succ, List.getElem_cons_zero, Act.put, List.setIfInBounds_toArray, List.set_cons_zero, List.set_cons_succ]
  refine wpAnyH_take (i := 14) (v := ?ve29) rfl (by kernel_rfl) (by kernel_rfl) (by kernel_rfl) (fun _ _ _ h => h) (Or.inl ⟨by rfl, ?ye29⟩) HSb2.out ?re29
  case ye29 => (intro w' hSw; clear hSw; go_simp; try with_reducible rfl)
  simp only [List.getElem_toArray, List.getElem_cons_succ, List.getElem_cons_zero, Act.put, List.setIfInBounds_toArray, List.set_cons_zero, List.set_cons_succ]
  refine wpAnyH_take (i := 15) (v := ?ve30) rfl (by kernel_rfl) (by kernel_rfl) (by kernel_rfl) (fun _ _ _ h => h) (Or.inl ⟨by rfl, ?ye30⟩) HSb2.out ?re30
  case ye30 => (intro w' hSw; clear hSw; go_simp; try with_reducible rfl)
  simp only [List.getElem_toArray, List.getElem_cons_succ, List.getElem_cons_zero, Act.put, List.setIfInBounds_toArray, List.set_cons_zero, List.set_cons_succ]
  refine wpAnyH_take (i := 16) (v := ?ve31) rfl (by kernel_rfl) (by kernel_rfl) (by kernel_rfl) (fun _ _ _ h => h) (Or.inl ⟨by rfl, ?ye31⟩) HSb2.out ?re31
  case ye31 => (intro w' hSw; clear hSw; go_simp; try with_reducible rfl)
  simp only [List.getElem_toArray, List.getElem_cons_succ, List.getElem_cons_zero, Act.put, List.setIfInBounds_toArray, List.set_cons_zero, List.set_cons_succ]
  refine wpAnyH_take (i := 17) (v := ?ve32) rfl (by kernel_rfl) (by kernel_rfl) (by kernel_rfl) (fun _ _ _ h => h) (Or.inl ⟨by rfl, ?ye32⟩) HSb2.out ?re32
  case ye32 => (intro w' hSw; clear hSw; go_simp; try with_reducible rfl)
  simp only [List.getElem_toArray, List.getElem_cons_succ, List.getElem_cons_zero, Act.put, List.setIfInBounds_toArray, List.set_cons_zero, List.set_cons_succ]
  refine wpAnyH_take (i := 20) (v := ?ve33) rfl (by kernel_rfl) (by kernel_rfl) (by kernel_rfl) (fun _ _ _ h => h) (Or.inl ⟨by rfl, ?ye33⟩) HSb2.out ?re33
  case ye33 => (intro w' hSw; clear hSw; go_simp; try with_reducible rfl)
  simp only [List.getElem_toArray, List.getElem_cons_succ, List.getElem_cons_zero, Act.put, List.setIfInBounds_toArray, List.set_cons_zero, List.set_cons_succ]
  refine wpAnyH_take (i := 21) (v := ?ve34) rfl (by kernel_rfl) (by kernel_rfl) (by kernel_rfl) (fun _ _ _ h => h) (Or.inl ⟨by rfl, ?ye34⟩) HSb2.out ?re34
  case ye34 => (intro w' hSw; clear hSw; go_simp; try with_reducible rfl)
  simp only [List.getElem_toArray, List.getElem_cons_succ, List.getElem_cons_zero, Act.put, List.setIfInBounds_toArray, List.set_cons_zero, List.set_cons_succ]
  refine wpAnyH_ready (rs := [18]) (by kernel_rfl) (by simp) ?_
  refine AllReadyH.cons rfl (fun K' hK => ?_) AllReadyH.nil
  simp only [List.getElem_toArray, List.getElem_cons_succ, List.getElem_cons_zero]
  go_simp
  refine (interim_any O (some ⟨g, 0, none⟩) o L on oc N N _ (HTwb.out.at HU_wb_b2.out) (HOwb.out.below HU_wb_b2.out) (HLwb.out.below HU_wb_b2.out) (by omega) (by omega)).mono ?_
  rintro e' b3 ⟨X5, m5, d5, rfl, hX, hb⟩
  have HU_b2_b3 := Lib.hid hb
  rw [HE5.out] at hX
  have HX5 := Lib.hid hX.any
  clear hX
  have HU_b1_b3 := Lib.hid (HU_b1_b2.out.trans (HU_b2_b3.out.mono HU_b1_b2.out.size))
  have HU_wb_b3 := Lib.hid (HU_wb_b2.out.trans (HU_b2_b3.out.mono HU_wb_b2.out.size))
  refine hK.out _ _ HU_b2_b3.out (fun _ => ?_)
  clear hK
  try simp only [List.getElem_toArray, List.getElem_cons_succ, List.getElem_cons_zero, Act.put, List.setIfInBounds_toArray, List.set_cons_zero, List.set_cons_succ]
  have HSb3 : Hid (Below b3.heap.size b3 b3) := Lib.hid (Below.refl _ _)
  refine Sha.wpAnyH_more (S' := fun W => Below b3.heap.size b3 W) (fun W h => HU_b2_b3.out.trans (h.mono HU_b2_b3.out.size)) _ _ _ _ ?_
  refine wpAnyH_take (i := 19) (v := ?ve35) rfl (by kernel_rfl) (by kernel_rfl) (by kernel_rfl) (fun _ _ _ h => h) (Or.inl ⟨by rfl, ?ye35⟩) HSb3.out ?re35
  case ye35 => (intro w' hSw; have hq_b3 : Below b3.heap.size b3 w' := hSw; have hq_b2 : Below b2.heap.size b2 w' := HU_b2_b3.out.trans (hSw.mono HU_b2_b3.out.size); have hq_b1 : Below b1.heap.size b1 w' := HU_b1_b3.out.trans (hSw.mono HU_b1_b3.out.size); have hq_wb : Below wb.heap.size wb w' := HU_wb_b3.out.trans (hSw.mono HU_wb_b3.out.size); have hq := hq_wb; have cc := (HX5.out.below hq_b3).conv; rw [HS3.out] at cc; clear hSw; try clear hq hq_wb hq_b1 hq_b2 hq_b3; go_simp; try with_reducible rfl)
  simp only [List.getElem_toArray, List.getElem_cons_succ, List.getElem_cons_zero, Act.put, List.setIfInBounds_toArray, List.set_cons_zero, List.set_cons_succ]
  refine wpAnyH_ready (rs := [22]) (by kernel_rfl) (by simp) ?_
  refine AllReadyH.cons rfl (fun K' hK => ?_) AllReadyH.nil
  simp only [List.getElem_toArray, List.getElem_cons_succ, List.getElem_cons_zero]
  go_simp
  refine (interim_any O SA o s on oc 32 sd _ (HTwb.out.at HU_wb_b3.out) (HOwb.out.below HU_wb_b3.out) (HSswb.out.below HU_wb_b3.out) (by omega) (by omega)).mono ?_
  rintro e' b4 ⟨X6, m6, d6, rfl, hX, hb⟩
  have HU_b3_b4 := Lib.hid hb
  rw [HE6.out] at hX
  have HX6 := Lib.hid hX.any
  clear hX
  have HU_b2_b4 := Lib.hid (HU_b2_b3.out.trans (HU_b3_b4.out.mono HU_b2_b3.out.size))
  have HU_b1_b4 := Lib.hid (HU_b1_b3.out.trans (HU_b3_b4.out.mono HU_b1_b3.out.size))
  have HU_wb_b4 := Lib.hid (HU_wb_b3.out.trans (HU_b3_b4.out.mono HU_wb_b3.out.size))
  refine hK.out _ _ HU_b3_b4.out (fun _ => ?_)
  clear hK
  try simp only [List.getElem_toArray, List.getElem_cons_succ, List.getElem_cons_zero, Act.put, List.setIfInBounds_toArray, List.set_cons_zero, List.set_cons_succ]
  have HSb4 : Hid (Below b4.heap.size b4 b4) := Lib.hid (Below.refl _ _)
  refine Sha.wpAnyH_more (S' := fun W => Below b4.heap.size b4 W) (fun W h => HU_b3_b4.out.trans (h.mono HU_b3_b4.out.size)) _ _ _ _ ?_
  refine wpAnyH_take (i := 23) (v := ?ve36) rfl (by kernel_rfl) (by kernel_rfl) (by kernel_rfl) (fun _ _ _ h => h) (Or.inl ⟨by rfl, ?ye36⟩) HSb4.out ?re36
  case ye36 => (intro w' hSw; have hq_b4 : Below b4.heap.size b4 w' := hSw; have hq_b3 : Below b3.heap.size b3 w' := HU_b3_b4.out.trans (hSw.mono HU_b3_b4.out.size); have hq_b2 : Below b2.heap.size b2 w' := HU_b2_b4.out.trans (hSw.mono HU_b2_b4.out.size); have hq_b1 : Below b1.heap.size b1 w' := HU_b1_b4.out.trans (hSw.mono HU_b1_b4.out.size); have hq_wb : Below wb.heap.size wb w' := HU_wb_b4.out.trans (hSw.mono HU_wb_b4.out.size); have hq := hq_wb; have cc := (HX6.out.below hq_b4).conv; rw [HS3.out] at cc; clear hSw; try clear hq hq_wb hq_b1 hq_b2 hq_b3 hq_b4; go_simp; try with_reducible rfl)
  simp only [List.getElem_toArray, List.getElem_cons_succ, List.getElem_cons_zero, Act.put, List.setIfInBounds_toArray, List.set_cons_zero, List.set_cons_succ]
  refine wpAnyH_take (i := 24) (v := ?ve37) rfl (by kernel_rfl) (by kernel_rfl) (by kernel_rfl) (fun _ _ _ h => h) (Or.inl ⟨by rfl, ?ye37⟩) HSb4.out ?re37
  case ye37 => (intro w' hSw; clear hSw; go_simp; try with_reducible rfl)
  simp only [List.getElem_toArray, List.getElem_cons_succ, List.getElem_cons_zero, Act.put, List.setIfInBounds_toArray, List.set_cons_zero, List.set_cons_succ]
  refine wpAnyH_take (i := 25) (v := ?ve38) rfl (by kernel_rfl) (by kernel_rfl) (by kernel_rfl) (fun _ _ _ h => h) (Or.inl ⟨by rfl, ?ye38⟩) HSb4.out ?re38
  case ye38 => (intro w' hSw; clear hSw; go_simp; try with_reducible rfl)
  simp only [List.getElem_toArray, List.getElem_cons_succ, List.getElem_cons_zero, Act.put, List.setIfInBounds_toArray, List.set_cons_zero, List.set_cons_succ]
  refine wpAnyH_take (i := 26) (v := ?ve39) rfl (by kernel_rfl) (by kernel_rfl) (by kernel_rfl) (fun _ _ _ h => h) (Or.inl ⟨by rfl, ?ye39⟩) HSb4.out ?re39
  case ye39 => (intro w' hSw; clear hSw; go_simp; try with_reducible rfl)
  simp only [List.getElem_toArray, List.getElem_cons_succ, List.getElem_cons_zero, Act.put, List.setIfInBounds_toArray, List.set_cons_zero, List.set_cons_succ]
  refine wpAnyH_done (by kernel_rfl) ?_ _
  change Exit.then _ _ Exit.normal _ _
  go_wp2
  go_ret
  exact ⟨rfl, HBf.out.trans (HU_wb_b4.out.mono HBf.out.size)⟩
end Go.Proofs.YtikafijdfgkgkaaDoor.Sc
