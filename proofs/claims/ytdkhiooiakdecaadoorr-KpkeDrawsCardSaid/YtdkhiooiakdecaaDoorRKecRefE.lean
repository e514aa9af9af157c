/- Walks of the document's own: Write. -/
import Derived.Test.YtdkhiooiakdecaaDoorRKecRefD
namespace Go.Proofs.YtdkhiooiakdecaaDoorR.Kec
set_option linter.all false
open Go.RowKit

theorem tp_size (ws : List Nat) : (Tryd.prog.info? 72).map (·.size) = some (words (tp ws)).toList.length := by
  simp only [Array.length_toList, words_size]; rw [show (tp ws).length = 25 from tab_len _]; kernel_rfl
theorem tp_size' (ws : List Nat) : (Tryd.prog.info? 72).map (·.size) = some (words (tp ws)).size := by
  rw [words_size, show (tp ws).length = 25 from tab_len _]; kernel_rfl
theorem tp_there {w w1 : World} {g r e : Nat} {gv : Bool} {s : Nat × List Nat} (h : RSp w g r e gv s) (hB : Below w.heap.size w w1) (us : List Nat) : w1.there g 2 (words (tp us)).size := by
  rw [words_size, show (tp us).length = 25 from tab_len _]
  exact (h.of_block (hB.block g h.lt)).there
theorem RSp.chg {w w1 : World} {g r e : Nat} {gv : Bool} {s : Nat × List Nat} (h : RSp w g r e gv s) (hB : Below w.heap.size w w1) (us : List Nat) : RSp (w1.setCells g 2 (words (tp us)).toList) g r e gv (s.1, us) :=
  (h.of_block (hB.block g h.lt)).cells (tab_len _)
theorem only_chg {a w w1 : World} {g : Nat} (h : a.grownBy w (some g)) (hB : Below w.heap.size w w1) (us : List Nat) : a.grownBy (w1.setCells g 2 (words (tp us)).toList) (some g) :=
  only_setCells _ _ _ (only_then h (only_of_below hB (some g)) (.inl rfl))
theorem RSp.ch {w w1 w2 : World} {g r e : Nat} {gv : Bool} {a : Nat} {ws us : List Nat} (h : RSp w g r e gv (a, ws)) (hB : Below w.heap.size w w1) (hl : us.length = 25) : St (w1.setCells g 2 (words us).toList) g 74 29 (spF r e a gv) 2 us :=
  (h.of_block (hB.block g h.lt)).cells hl

set_option maxHeartbeats 2000000 in
set_option maxRecDepth 100000 in
theorem rwrite_gives (g r e : Nat) (s : Nat × List Nat) (A : Option Addr) (n c : Nat) (w : World) (hS : RSp w g r e true s) (hm : n ≤ 9223372036854775807) :
    Calls Tryd.prog 55 #[.pointer (some ⟨g, 0, none⟩), .slice A n c] w fun e' w' => e' = .returned (.tuple #[]) ∧ w = w' := by
  have c0 := hS.gives
  clear hS
  by_cases h0 : 0 < n
  · go_enter Tryd.func55, Tryd.ntmps55
    go_wp2
    refine wp_loop_rounds 1 ?_
    rw [rounds_succ]
    go_wp2
    go_end0
    exact ⟨rfl, rfl⟩
  · go_enter Tryd.func55, Tryd.ntmps55
    go_wp2
    refine wp_loop_rounds 1 ?_
    rw [rounds_succ]
    go_wp2
    go_end0
    exact ⟨rfl, rfl⟩

set_option maxHeartbeats 1000000 in
set_option maxRecDepth 100000 in
theorem rwrite_any (g r e B : Nat) (s : Nat × List Nat) (A : Option Addr) (bs : List Nat) (n c : Nat) (w : World) (hS : RSp w g r e false s) (hG : Good r s) (hr : r ≤ 192) (hb : 3 ≤ g)
    (hR : Rd w B A bs) (hB : B ≤ g) (hn : bs.length = n) (hm : n ≤ 9223372036854775807) :
    Calls Tryd.prog 55 #[.pointer (some ⟨g, 0, none⟩), .slice A n c] w fun e' w' => e' = .returned (.tuple #[]) ∧ RSp w' g r e false (takeAll r s bs) ∧ w.grownBy w' (some g) := by
  have hlt : g < w.heap.size := hS.2.lt
  have HS := Lib.hid hS; have HG := Lib.hid hG; have HR := Lib.hid hR; have HN := Lib.hid hn; clear hS hG hR hn
  go_enter Tryd.func55, Tryd.ntmps55
  go_wp2
  go_loopw [4] (fun i W => ∃ k : Nat, k ≤ n ∧ i = .int .i64 k ∧ Hid (RSp W g r e false (takeAll r s (bs.take k))) ∧ Hid (w.grownBy W (some g))) (fun i _ => n - (intOf i).toNat)
  case atStart => exact ⟨0, by omega, rfl, HS, Lib.hid (World.grownBy.refl _ _)⟩
  case round =>
    obtain ⟨k, hk, rfl, HS1, HG1⟩ := hrel
    have cg := HS1.out.gives
    by_cases hkn : k < n
    · obtain ⟨hb256, hR1⟩ := HR.out.grown HG1.out hB (by omega)
      obtain ⟨ad, rfl, hadB, hcell⟩ := hR1 (by rw [HN.out]; omega)
      have c0 := hcell k (by rw [HN.out]; exact hkn)
      have hv := hb256 k
      clear hR1 hcell hb256
      have hgood := good_takeAll hr (bs.take k) HG.out
      have hsn := takeAll_snoc r s bs k (by rw [HN.out]; exact hkn)
      generalize takeAll r s (bs.take k) = s1 at *
      obtain ⟨a, ws⟩ := s1
      have ha : a < r := hgood.1
      have HGD := Lib.hid hgood; have HSN := Lib.hid hsn; clear hgood hsn
      have c1 := HS1.out.at_
      dsimp only at c1
      have hk0 : (0 : Int) ≤ (k : Int) := by omega
      have hkn' : (k : Int) < (n : Int) := by omega
      go_wp2
      refine wp_region_still_tail 9 (by kernel_rfl) (by kernel_rfl) ?_
      simp only [List.take_succ_cons, List.take_zero, List.drop_succ_cons, List.drop_zero]
      repeat still_step
      refine wpStill_nil ?_
      change wpList _ _ _ _ _ wr.drew
      go_wp2_with fail
      refine (rlay_any g r e a (gt bs k) false (a, ws) _ (by omega) hv HS1.out.drew HGD.out.2).mono ?_
      rintro e' w1 ⟨rfl, hS2, hG2⟩
      have HS2 : Hid (RSp w1 g r e false (a, lay ws a (gt bs k))) := Lib.hid hS2
      have HG2 := Lib.hid (only_then (only_drew HG1.out) hG2 (.inl rfl))
      have HO2 := Lib.hid (ok_lay HGD.out.2 a (gt bs k) (by omega))
      clear hS2 hG2 c1 c0 cg
      generalize hlay : lay ws a (gt bs k) = w2s at *
      have HLAY := Lib.hid hlay; clear hlay
      have cr := HS2.out.rate
      have ca := HS2.out.at_
      have fa := HS2.out.frozen 27
      dsimp only at ca
      by_cases h : a + 1 = r
      · have hd : ((a : Int) + 1 == (r : Int)) = true := by rw [beq_iff_eq]; omega
        have HH := Lib.hid h; clear h
        have HSN2 : Hid (takeAll r s (bs.take (k + 1)) = (0, change w2s)) := Lib.hid (by rw [HSN.out, takeOne, stepAt, if_pos HH.out, HLAY.out])
        go_wp2
        go_quiet (fail)
        have HS3 : Hid (RSp ((w1.setCell ⟨g, 27, none⟩ (.int .i64 ((a : Int) + 1))).drewN nq) g r e false (a + 1, w2s)) := Lib.hid (HS2.out.setAt (a + 1))
        have HG3 := Lib.hid (only_drewN (only_set HG2.out (p := ⟨g, 27, none⟩) (.inl rfl) (.int .i64 ((a : Int) + 1))) nq)
        generalize (w1.setCell ⟨g, 27, none⟩ (.int .i64 ((a : Int) + 1))).drewN nq = w3 at *
        clear cr ca fa HS2 HG2
        go_wp2_with (refine wpList_load_mid (op := ⟨some 48, .load 72 (.tmp 47), _, _, _, none⟩) rfl 72 (.tmp 47) rfl g 2 (by rfl) (words (tp w2s)).toList _ (HS3.out.range (tab_len _)) Tryd.underlying72 rfl (tp_size w2s) ?_)
        refine (rchange_words w2s _ HO2.out).mono ?_
        rintro e' w4 ⟨rfl, hB4⟩
        have HB4 := Lib.hid hB4; clear hB4
        generalize change w2s = m2 at *
        go_wp2_with ((refine wpList_store_mid (op := ⟨none, .store 72 (.tmp 51) (.tmp 49), _, _, _, none⟩) rfl 72 (.tmp 51) (.tmp 49) rfl g 2 (words (tp m2)) (by rfl) (by rfl) (tp_there HS3.out HB4.out m2) (tp_size' m2) (words_one _) ?_); have HS5 := Lib.hid (HS3.out.chg HB4.out m2); have HG5 := Lib.hid (only_chg HG3.out HB4.out m2); generalize w4.setCells g 2 (words (tp m2)).toList = w5 at *; have ca := HS5.out.at_; have fa := HS5.out.frozen 27; dsimp only at ca)
        go_roundw
        case rel => exact ⟨k + 1, by omega, by go_num, Lib.hid (by rw [HSN2.out]; exact HS5.out.setAt 0), Lib.hid (only_set HG5.out (.inl rfl) _)⟩
        case measure => simp [intOf]; omega
      · have hd : ((a : Int) + 1 == (r : Int)) = false := by rw [beq_eq_false_iff_ne]; omega
        have HH := Lib.hid h; clear h
        have HSN2 : Hid (takeAll r s (bs.take (k + 1)) = (a + 1, w2s)) := Lib.hid (by rw [HSN.out, takeOne, stepAt, if_neg HH.out, HLAY.out])
        go_wp2
        go_quiet (fail)
        go_wp2
        go_roundw
        case rel => exact ⟨k + 1, by omega, by go_num, Lib.hid (by rw [HSN2.out]; exact HS2.out.setAt (a + 1)), Lib.hid (only_drewN (only_set HG2.out (.inl rfl) _) _)⟩
        case measure => simp [intOf]; omega
    · obtain rfl : k = n := by omega
      go_wp2
      go_end0
      refine ⟨rfl, ?_, HG1.out⟩
      have := HS1.out
      rwa [List.take_of_length_le (by rw [HN.out]; omega)] at this

end Go.Proofs.YtdkhiooiakdecaaDoorR.Kec
