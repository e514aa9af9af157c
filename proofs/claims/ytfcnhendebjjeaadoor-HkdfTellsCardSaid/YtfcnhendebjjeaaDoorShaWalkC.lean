/- Walks: change. -/
import Derived.Test.YtfcnhendebjjeaaDoorShaHash
import Derived.WalkMore
import Derived.ScopeJumps
namespace Go.Proofs.YtfcnhendebjjeaaDoor.Sha
set_option linter.all false
open Go.RowKit

theorem wp_scope_round {P : Program} {a : Act} {w : World} {Q : Exit → Act → World → Prop} {c rest : Code} (l : Nat) (J : Act → World → Prop) (μ : Act → World → Nat) (hf : findLabel c l = some (Code.seq .skip rest))
    (pass : ∀ a w, J a w → rest.wp P (Exit.jump l (fun a' w' => J a' w' ∧ μ a' w' < μ a w) Q) a w)
    (first : (∀ a w, J a w → rest.wp P (Exit.jump l J Q) a w) → c.wp P (Exit.jump l J Q) a w) : (Code.scope c).wp P Q a w :=
  wp_scope_jumps l J μ hf (first fun a w h => Code.wp_mono (fun e a' w' h' => by
    cases e <;> first | exact h' | exact ⟨h'.1, h'.2.1⟩) (pass a w h)) fun a w h => wp_seq (wp_skip (pass a w h))

theorem u32_not (x : Nat) (hx : x < 4294967296) : bits .xor .u32 (4294967295 : Int) (x : Int) = (notw x : Nat) := by
  have h : (4294967295 : Int) = ((4294967295 : Nat) : Int) := rfl
  rw [h, u32_xor_nat _ _ (by omega) hx]
  unfold notw
  have e : 4294967295 ^^^ x = 4294967295 - x := by
    apply Nat.eq_of_testBit_eq
    intro i
    have := Nat.testBit_two_pow_sub_succ (n := 32) (x := x) hx i
    rw [Nat.testBit_xor]
    have h2 : (4294967295 : Nat).testBit i = decide (i < 32) := by
      have := Nat.testBit_two_pow_sub_one 32 i
      simpa using this
    rw [h2]
    have h3 : 4294967295 - x = 2 ^ 32 - (x + 1) := by omega
    rw [h3, this]
    by_cases hi : i < 32
    · simp [hi]
    · have : x.testBit i = false := Nat.testBit_lt_two_pow (Nat.lt_of_lt_of_le hx (by
        have h64 : (4294967296 : Nat) = 2 ^ 32 := rfl
        rw [h64]
        exact Nat.pow_le_pow_right (by omega) (by omega)))
      simp [hi, this]
  rw [e]
theorem ch_bits {e f g : Nat} (he : e < 4294967296) (hf : f < 4294967296) (hg : g < 4294967296) : bits .xor .u32 (bits .and .u32 (e : Int) (f : Int)) (bits .and .u32 ((notw e : Nat) : Int) (g : Int)) = ((ch e f g : Nat) : Int) := by
  rw [u32_and_nat _ _ he hf, u32_and_nat _ _ (notw_lt _) hg, u32_xor_nat _ _ (and_lt hf) (and_lt hg)]; rfl
theorem maj_bits {a b c : Nat} (ha : a < 4294967296) (hb : b < 4294967296) (hc : c < 4294967296) : bits .xor .u32 (bits .xor .u32 (bits .and .u32 (a : Int) (b : Int)) (bits .and .u32 (a : Int) (c : Int))) (bits .and .u32 (b : Int) (c : Int)) = ((maj a b c : Nat) : Int) := by
  rw [u32_and_nat _ _ ha hb, u32_and_nat _ _ ha hc, u32_and_nat _ _ hb hc, u32_xor_nat _ _ (and_lt hb) (and_lt hc), u32_xor_nat _ _ (xor_lt (and_lt hb) (and_lt hc)) (and_lt hc)]; rfl
theorem turned_e (x : Nat) (w : World) (hx : x < 4294967296) : Calls Tryd.prog 43 #[.int .u32 x, .int .i64 6, .int .i64 11, .int .i64 25] w fun e w' => e = .returned (.int .u32 (turned x 6 11 25 : Nat)) ∧ w' = w :=
  turned_any x 6 11 25 w hx (by omega) (by omega) (by omega) (by omega) (by omega) (by omega)
theorem turned_a (x : Nat) (w : World) (hx : x < 4294967296) : Calls Tryd.prog 43 #[.int .u32 x, .int .i64 2, .int .i64 13, .int .i64 22] w fun e w' => e = .returned (.int .u32 (turned x 2 13 22 : Nat)) ∧ w' = w :=
  turned_any x 2 13 22 w hx (by omega) (by omega) (by omega) (by omega) (by omega) (by omega)
theorem round0 (v : List Nat) (c x : Nat) : gt (round v c x) 0 = add (tOf v c x) (uOf v) := by unfold round; exact gt_cons_zero _ _
theorem round1 (v : List Nat) (c x : Nat) : gt (round v c x) 1 = gt v 0 := by unfold round; exact (gt_cons_succ _ _ 0).trans (gt_cons_zero _ _)
theorem round2 (v : List Nat) (c x : Nat) : gt (round v c x) 2 = gt v 1 := by unfold round; exact (gt_cons_succ _ _ 1).trans ((gt_cons_succ _ _ 0).trans (gt_cons_zero _ _))
theorem round3 (v : List Nat) (c x : Nat) : gt (round v c x) 3 = gt v 2 := by unfold round; exact (gt_cons_succ _ _ 2).trans ((gt_cons_succ _ _ 1).trans ((gt_cons_succ _ _ 0).trans (gt_cons_zero _ _)))
theorem round4 (v : List Nat) (c x : Nat) : gt (round v c x) 4 = add (gt v 3) (tOf v c x) := by unfold round; exact (gt_cons_succ _ _ 3).trans ((gt_cons_succ _ _ 2).trans ((gt_cons_succ _ _ 1).trans ((gt_cons_succ _ _ 0).trans (gt_cons_zero _ _))))
theorem round5 (v : List Nat) (c x : Nat) : gt (round v c x) 5 = gt v 4 := by unfold round; exact (gt_cons_succ _ _ 4).trans ((gt_cons_succ _ _ 3).trans ((gt_cons_succ _ _ 2).trans ((gt_cons_succ _ _ 1).trans ((gt_cons_succ _ _ 0).trans (gt_cons_zero _ _)))))
theorem round6 (v : List Nat) (c x : Nat) : gt (round v c x) 6 = gt v 5 := by unfold round; exact (gt_cons_succ _ _ 5).trans ((gt_cons_succ _ _ 4).trans ((gt_cons_succ _ _ 3).trans ((gt_cons_succ _ _ 2).trans ((gt_cons_succ _ _ 1).trans ((gt_cons_succ _ _ 0).trans (gt_cons_zero _ _))))))
theorem round7 (v : List Nat) (c x : Nat) : gt (round v c x) 7 = gt v 6 := by unfold round; exact (gt_cons_succ _ _ 6).trans ((gt_cons_succ _ _ 5).trans ((gt_cons_succ _ _ 4).trans ((gt_cons_succ _ _ 3).trans ((gt_cons_succ _ _ 2).trans ((gt_cons_succ _ _ 1).trans ((gt_cons_succ _ _ 0).trans (gt_cons_zero _ _)))))))
theorem add_int (a b : Nat) : ((a : Int) + (b : Int)) % 4294967296 = ((add a b : Nat) : Int) := by unfold add; omega
theorem add_wrap (a b : Nat) : IntKind.u32.wrap ((a : Int) + (b : Int)) = ((add a b : Nat) : Int) := by rw [IntKind.wrap_u32]; exact add_int a b
theorem eight_round (v : List Nat) (c x k : Nat) (hk : k < 8) : (#[Value.int .u32 ((add (tOf v c x) (uOf v) : Nat) : Int), .int .u32 ((gt v 0 : Nat) : Int), .int .u32 ((gt v 1 : Nat) : Int), .int .u32 ((gt v 2 : Nat) : Int), .int .u32 ((add (gt v 3) (tOf v c x) : Nat) : Int), .int .u32 ((gt v 4 : Nat) : Int), .int .u32 ((gt v 5 : Nat) : Int), .int .u32 ((gt v 6 : Nat) : Int)] : Array Value)[k]? = some (.int .u32 ((gt (round v c x) k : Nat) : Int)) := by
  match k, hk with
  | 0, _ => rw [round0]; simp
  | 1, _ => rw [round1]; simp
  | 2, _ => rw [round2]; simp
  | 3, _ => rw [round3]; simp
  | 4, _ => rw [round4]; simp
  | 5, _ => rw [round5]; simp
  | 6, _ => rw [round6]; simp
  | 7, _ => rw [round7]; simp
  | n + 8, h => omega

set_option maxHeartbeats 800000 in
set_option maxRecDepth 100000 in
theorem change_to (g : Nat) (st buf out ws v64 : List Nat) (n : Nat) (w : World) (hS : HsAt w g ⟨st, buf, n⟩) (hO : Ok 4294967296 8 st) (hB : Ok 256 64 buf) (hT : Tables w) (hg : 2 ≤ g)
    (HW : Hid (Unit → wordsOf buf = ws)) (HV : Hid (Unit → roundsTo ws st 64 = v64)) (HO : Hid (Unit → sumTo st v64 8 = out)) :
    Calls Tryd.prog 39 #[.pointer (some ⟨g, 0, none⟩), .pointer (some ⟨g, 8, none⟩)] w fun e w' => e = .returned (.tuple #[]) ∧ HsAt w' g ⟨out, buf, n⟩ ∧ w.grownBy w' (some g) := by
  have hlt := hS.lt
  have hws : Ok 4294967296 64 ws := by rw [← HW.out ()]; exact ok_wordsOf hB
  have HS := Lib.hid hS; have HOS := Lib.hid hO; have HOB := Lib.hid hB; have HT := Lib.hid hT; have HOW := Lib.hid hws; clear hS hO hB hT hws
  go_enter Tryd.func39, Tryd.ntmps39
  go_wp2
  obtain ⟨J, HJ⟩ : ∃ J : Act → World → Prop, Hid (∀ a' w', J a' w' ↔ ∃ (gw k : Nat) (v : List Nat) (x0 x1 x2 x3 x4 x5 x6 x7 x8 : Int) (u14 u15 u18 u19 u20 u21 u22 u23 u24 u25 u26 u27 u28 u29 u30 u31 u32 u33 u34 u35 u36 u37 u38 u39 u40 u41 u42 u43 u44 u45 u46 u47 u48 u49 u50 u51 u52 u53 u54 u55 u56 u57 u58 u59 u60 u61 u62 u63 u64 u65 u66 u67 u68 u69 u70 u71 u72 u73 u74 u75 u76 u77 u78 u79 u80 u81 u82 u83 u84 u85 u86 u87 u88 u89 u90 u91 u92 u93 u94 u95 u96 u97 u98 u99 u100 u101 u102 : Value), a' = { tmps := #[.pointer (some ⟨g, 0, none⟩), .pointer (some ⟨g, 8, none⟩), undef, undef, .pointer (some ⟨gw, 0, none⟩), .int .u32 x0, .int .u32 x1, .int .u32 x2, .int .u32 x3, .int .u32 x4, .int .u32 x5, .int .u32 x6, .int .u32 x7, .int .i64 x8, u14, u15, undef, undef, u18, u19, u20, u21, u22, u23, u24, u25, u26, u27, u28, u29, u30, u31, u32, u33, u34, u35, u36, u37, u38, u39, u40, u41, u42, u43, u44, u45, u46, u47, u48, u49, u50, u51, u52, u53, u54, u55, u56, u57, u58, u59, u60, u61, u62, u63, u64, u65, u66, u67, u68, u69, u70, u71, u72, u73, u74, u75, u76, u77, u78, u79, u80, u81, u82, u83, u84, u85, u86, u87, u88, u89, u90, u91, u92, u93, u94, u95, u96, u97, u98, u99, u100, u101, u102, undef, undef, undef, undef, undef, undef, undef, undef, undef, undef, undef, undef, undef, undef, undef, undef, undef, undef, undef, undef, undef, undef, undef], defers := [] } ∧ k < 64 ∧ Hid (Unit → roundsTo ws st k = v) ∧ x0 = ((gt v 0 : Nat) : Int) ∧ x1 = ((gt v 1 : Nat) : Int) ∧ x2 = ((gt v 2 : Nat) : Int) ∧ x3 = ((gt v 3 : Nat) : Int) ∧ x4 = ((gt v 4 : Nat) : Int) ∧ x5 = ((gt v 5 : Nat) : Int) ∧ x6 = ((gt v 6 : Nat) : Int) ∧ x7 = ((gt v 7 : Nat) : Int) ∧ x8 = ((k : Nat) : Int) ∧ w.heap.size ≤ gw ∧ Hid (HsAt w' g ⟨st, buf, n⟩) ∧ Hid (w'.rowIs gw 55 64 (wordRow .u32 ws)) ∧ Hid (w.grownBy w' (some g)) ∧ Hid (Tables w')) := ⟨_, Lib.hid fun _ _ => Iff.rfl⟩
  refine wp_scope_round 0 J (fun a' _ => 64 - (intOf (a'.tmps.getD 13 undef)).toNat) rfl ?pass ?first
  case first =>
    intro hpass
    go_wp2_with fail
    refine (words_to g 8 buf ws _ HW HOB.out hlt HS.out.buf).mono ?_
    rintro e w1 ⟨rfl, hB1⟩
    have HB1 := Lib.hid hB1; clear hB1
    have hl : ws.length = 64 := HOW.out.1
    have hi : (Tryd.prog.info? 55).map (·.size) = some (numsOf .u32 ws).size := by rw [numsOf_size, hl]; kernel_rfl
    have hzm : (numsOf .u32 (tab 64 fun _ => 0)).size = (numsOf .u32 ws).size := by rw [numsOf_size, numsOf_size, tab_len, hl]
    have HZM := Lib.hid hzm; have HI := Lib.hid hi; clear hi hzm
    go_wp2_with (refine wpList_store_row rfl 55 (.tmp 4) (.tmp 19) rfl w1.heap.size (numsOf .u32 ws) rfl rfl 55 (numsOf .u32 (tab 64 fun _ => 0)) (heap_alloc_last w1 _) HI.out HZM.out (numsOf_one _ _) ?_)
    rw [World.setRow_alloc_new]
    have HS2 := Lib.hid ((HS.out.below HB1.out hlt).alloc (.cells (numsOf .u32 ws) 55))
    have HR2 := Lib.hid (rowIs_words (heap_alloc_last w1 (.cells (numsOf .u32 ws) 55)) hl)
    have HG2 := Lib.hid (only_alloc (only_of_below HB1.out (some g)) (.cells (numsOf .u32 ws) 55))
    have HT2 := Lib.hid ((HT.out.below HB1.out (by omega)).alloc (.cells (numsOf .u32 ws) 55))
    have hgw : w.heap.size ≤ w1.heap.size := HB1.out.size
    generalize w1.alloc (.cells (numsOf .u32 ws) 55) = w2 at *
    generalize w1.heap.size = gw at *
    have c0 := HS2.out.st 0 (by omega)
    have c1 := HS2.out.st 1 (by omega)
    have c2 := HS2.out.st 2 (by omega)
    have c3 := HS2.out.st 3 (by omega)
    have c4 := HS2.out.st 4 (by omega)
    have c5 := HS2.out.st 5 (by omega)
    have c6 := HS2.out.st 6 (by omega)
    have c7 := HS2.out.st 7 (by omega)
    dsimp only at c0 c1 c2 c3 c4 c5 c6 c7
    go_wp2
    refine wp_region_still_tail 39 (by kernel_rfl) (by kernel_rfl) ?_
    simp only [List.take_succ_cons, List.take_zero, List.drop_succ_cons, List.drop_zero]
    repeat still_step
    refine wpStill_nil ?_
    change wpList _ _ _ _ _ w2.drew
    replace HS2 := Lib.hid HS2.out.drew
    replace HR2 := Lib.hid HR2.out.drew
    replace HG2 := Lib.hid (only_drew HG2.out)
    replace HT2 := Lib.hid HT2.out.drew
    clear c0 c1 c2 c3 c4 c5 c6 c7
    generalize w2.drew = w3 at *
    go_wp2
    go_step3
    rename_i hgo
    refine hgo _ _ (hpass _ _ ?_)
    refine (HJ.out _ _).2 ⟨gw, 0, st, _, _, _, _, _, _, _, _, _, _, _, _, _, _, _, _, _, _, _, _, _, _, _, _, _, _, _, _, _, _, _, _, _, _, _, _, _, _, _, _, _, _, _, _, _, _, _, _, _, _, _, _, _, _, _, _, _, _, _, _, _, _, _, _, _, _, _, _, _, _, _, _, _, _, _, _, _, _, _, _, _, _, _, _, _, _, _, _, _, _, _, _, _, _, _, _, rfl, by omega, Lib.hid fun _ => rfl, rfl, rfl, rfl, rfl, rfl, rfl, rfl, rfl, rfl, hgw, HS2, HR2, HG2, HT2⟩
  case pass =>
    intro a' W hJ
    replace hJ := (HJ.out _ _).1 hJ
    obtain ⟨gw, k, v, hJ⟩ := hJ
    obtain ⟨x0, x1, x2, x3, x4, x5, x6, x7, x8, hJ⟩ := hJ
    iterate 87 (obtain ⟨_, hJ⟩ := hJ)
    obtain ⟨hfr, hk, HVk, hx0, hx1, hx2, hx3, hx4, hx5, hx6, hx7, hx8, hgw, HS1, HR1, HG1, HT1⟩ := hJ
    subst hfr hx0 hx1 hx2 hx3 hx4 hx5 hx6 hx7 hx8
    have hov : Ok 4294967296 8 v := by rw [← HVk.out ()]; exact ok_roundsTo HOS.out k
    have t0 := HT1.out.rounds.cell k hk
    have t1 := HR1.out.cell (i := k) hk
    unfold wordRow at t1
    have yk : (k : Int) < 64 := by omega
    have n0 : bits .xor .u32 IntKind.u32.max ((gt v 4 : Nat) : Int) = (notw (gt v 4) : Nat) := u32_not (gt v 4) (hov.2 4)
    have n1 := u32_not (gt v 4) (hov.2 4)
    have n2 := ch_bits (hov.2 4) (hov.2 5) (hov.2 6)
    have n3 := maj_bits (hov.2 0) (hov.2 1) (hov.2 2)
    have HOV := Lib.hid hov; clear hov
    have a1 := add_wrap (gt v 7) (turned (gt v 4) 6 11 25)
    have a2 := add_wrap (add (gt v 7) (turned (gt v 4) 6 11 25)) (ch (gt v 4) (gt v 5) (gt v 6))
    have a3 := add_wrap (add (add (gt v 7) (turned (gt v 4) 6 11 25)) (ch (gt v 4) (gt v 5) (gt v 6))) (gt consT k)
    have a4 : IntKind.u32.wrap (((add (add (add (gt v 7) (turned (gt v 4) 6 11 25)) (ch (gt v 4) (gt v 5) (gt v 6))) (gt consT k) : Nat) : Int) + ((gt ws k : Nat) : Int)) = ((tOf v (gt consT k) (gt ws k) : Nat) : Int) := by
      unfold tOf; exact add_wrap _ _
    have b1 : (((turned (gt v 0) 2 13 22 : Nat) : Int) + ((maj (gt v 0) (gt v 1) (gt v 2) : Nat) : Int)) % 4294967296 = ((uOf v : Nat) : Int) := by unfold uOf; exact add_int _ _
    have b2 := add_int (gt v 3) (tOf v (gt consT k) (gt ws k))
    have b3 := add_int (tOf v (gt consT k) (gt ws k)) (uOf v)
    go_wp2
    refine wp_region_still_tail 21 (by kernel_rfl) (by kernel_rfl) ?_
    simp only [List.take_succ_cons, List.take_zero, List.drop_succ_cons, List.drop_zero]
    repeat still_step
    still_call (turned_e _ _ (HOV.out.2 _))
    repeat still_step
    refine wpStill_nil ?_
    change wpList _ _ _ _ _ W.drew
    replace HS1 := Lib.hid HS1.out.drew
    replace HR1 := Lib.hid HR1.out.drew
    replace HG1 := Lib.hid (only_drew HG1.out)
    replace HT1 := Lib.hid HT1.out.drew
    clear t0 t1
    generalize W.drew = W1 at *
    go_wp2_with fail
    refine (turned_a _ _ (HOV.out.2 _)).mono ?_
    rintro e' w' ⟨rfl, rfl⟩
    by_cases hk1 : k + 1 < 64
    · go_wp2
      go_step3
      generalize hV : round v (gt consT k) (gt ws k) = V
      refine ⟨rfl, (HJ.out _ _).2 ⟨gw, k + 1, V, _, _, _, _, _, _, _, _, _, _, _, _, _, _, _, _, _, _, _, _, _, _, _, _, _, _, _, _, _, _, _, _, _, _, _, _, _, _, _, _, _, _, _, _, _, _, _, _, _, _, _, _, _, _, _, _, _, _, _, _, _, _, _, _, _, _, _, _, _, _, _, _, _, _, _, _, _, _, _, _, _, _, _, _, _, _, _, _, _, _, _, _, _, _, _, _, rfl, hk1, Lib.hid fun _ => ?_, ?_, ?_, ?_, ?_, ?_, ?_, ?_, ?_, ?_, hgw, HS1, HR1, HG1, HT1⟩, ?_⟩
      · show round (roundsTo ws st k) (gt consT k) (gt ws k) = _
        rw [HVk.out (), hV]
      · rw [← hV, round0, add_int]
      · rw [← hV, round1]
      · rw [← hV, round2]
      · rw [← hV, round3]
      · rw [← hV, round4, add_int]
      · rw [← hV, round5]
      · rw [← hV, round6]
      · rw [← hV, round7]
      · omega
      · simp [intOf]; omega
    · obtain rfl : k = 63 := by omega
      go_wp2
      have hv : round v (gt consT 63) (gt ws 63) = v64 := by
        have e : round (roundsTo ws st 63) (gt consT 63) (gt ws 63) = v64 := HV.out ()
        rw [HVk.out ()] at e
        exact e
      have hix : ∀ k : Nat, k < 8 → ∀ W, (Instr.index 49 (.agg #[Value.int .u32 ((add (tOf v (gt consT 63) (gt ws 63)) (uOf v) : Nat) : Int), .int .u32 ((gt v 0 : Nat) : Int), .int .u32 ((gt v 1 : Nat) : Int), .int .u32 ((gt v 2 : Nat) : Int), .int .u32 ((add (gt v 3) (tOf v (gt consT 63) (gt ws 63)) : Nat) : Int), .int .u32 ((gt v 4 : Nat) : Int), .int .u32 ((gt v 5 : Nat) : Int), .int .u32 ((gt v 6 : Nat) : Int)]) (.int .i64 (k : Int))).run Tryd.prog W = .ok (.int .u32 ((gt v64 k : Nat) : Int)) W :=
        fun k hk W => run_index_one (P := Tryd.prog) 49 48 8 _ _ .i64 k _ Tryd.underlying49 Tryd.underlying48 rfl (by kernel_rfl) hk (by rw [eight_round v _ _ k hk, hv]) W
      have HIX := Lib.hid hix; clear hix hv n0 n1 n2 n3 yk hk hk1 a1 a2 a3 a4 b1 b2 b3
      generalize gt consT 63 = c63 at *
      generalize gt ws 63 = w63 at *
      generalize add (tOf v c63 w63) (uOf v) = y0 at *
      generalize add (gt v 3) (tOf v c63 w63) = y4 at *
      go_loopw [112] (fun i W => ∃ k : Nat, k ≤ 8 ∧ i = .int .i64 k ∧ Hid (HsAt W g ⟨sumTo st v64 k, buf, n⟩) ∧ Hid (w.grownBy W (some g))) (fun i _ => 8 - (intOf i).toNat)
      case atStart => exact ⟨0, by omega, rfl, Lib.hid (by rw [sumTo_zero HOS.out]; exact HS1.out), HG1⟩
      case round =>
        obtain ⟨k, hk, rfl, HS4, HG4⟩ := hrel
        by_cases hk8 : k < 8
        · have c0 := HS4.out.st k hk8
          dsimp only at c0
          rw [gt_sumTo hk8] at c0
          have f0 := HS4.out.frozen k
          have hix := HIX.out k hk8
          have hadd := add_int (gt st k) (gt v64 k)
          have y8 : (k : Int) < 8 := by omega
          go_wp2
          go_region
          go_wp2
          go_roundw
          case rel =>
            refine ⟨k + 1, by omega, by go_num, Lib.hid ?_, Lib.hid (only_drew (only_set HG4.out (.inl rfl) _))⟩
            have := HS4.out.setSt (ok_sumTo HOS.out k).1 k (add (gt st k) (gt v64 k)) hk8
            dsimp only at this
            rw [sumTo_succ hk8] at this
            exact this.drew
          case measure => simp [intOf]; omega
        · obtain rfl : k = 8 := by omega
          go_wp2
          simp only [Exit.jump]
          go_end0
          exact ⟨rfl, by rw [← HO.out ()]; exact HS4.out, HG4.out⟩
theorem change_any (g : Nat) (s : Hs) (w : World) (hS : HsAt w g s) (hG : Good s) (hT : Tables w) (hg : 2 ≤ g) :
    Calls Tryd.prog 39 #[.pointer (some ⟨g, 0, none⟩), .pointer (some ⟨g, 8, none⟩)] w fun e w' => e = .returned (.tuple #[]) ∧ HsAt w' g ⟨change s.st s.buf, s.buf, s.n⟩ ∧ w.grownBy w' (some g) :=
  change_to g s.st s.buf _ _ _ s.n w hS hG.st hG.buf hT hg (Lib.hid fun _ => rfl) (Lib.hid fun _ => rfl) (Lib.hid fun _ => rfl)

end Go.Proofs.YtfcnhendebjjeaaDoor.Sha
