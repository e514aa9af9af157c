/- Walks of the document's own: Read, behind the turning; the calls in one form. Written by tools/mk_krefg.py. -/
import Derived.Test.YtdkhiooiakdecaaDoorRKecRefF
namespace Go.Proofs.YtdkhiooiakdecaaDoorR.Kec
set_option linter.all false
open Go.RowKit

set_option maxHeartbeats 8000000 in
set_option maxRecDepth 100000 in
theorem rread_turns (g r e : Nat) (s0 : Nat × List Nat) (n : Nat) (W0 : World) (hS0 : RSp W0 g r e false s0) (hG0 : Good r s0) (hr : r ≤ 192) (hr0 : 0 < r) (he : e < 256) (hn : n ≤ 65536) :
    Calls Tryd.prog 56 #[.pointer (some ⟨g, 0, none⟩), .int .i64 n] W0 fun e' w' => ∃ v, e' = .returned v ∧ w'.ownsRow W0.heap.size 5 1 v n (bcells (outs r (turned r e s0) n)) ∧ LzAt w' g r e (turned r e s0) n ∧ W0.grownBy w' (some g) := by
  have hlt : g < W0.heap.size := hS0.2.lt
  obtain ⟨a0, ws0⟩ := s0
  have ha0 : a0 < r := hG0.1
  have c0 := hS0.gives
  have c1 := hS0.at_
  dsimp only at c1
  have c2 := hS0.end_
  have c3 := hS0.rate
  have HS0 := Lib.hid hS0; have HG0 := Lib.hid hG0; clear hS0 hG0
  have h1 : ¬ ((n : Int) < 0) := by omega
  have h2 : ¬ (65536 < (n : Int)) := by omega
  obtain ⟨s, hs⟩ : ∃ s, turned r e (a0, ws0) = s := ⟨_, rfl⟩
  rw [hs]
  have HSE := Lib.hid hs; clear hs
  go_enter Tryd.func56, Tryd.ntmps56
  go_wp2
  refine wp_region_still_tail 9 (by kernel_rfl) (by kernel_rfl) ?_
  simp only [List.take_succ_cons, List.take_zero, List.drop_succ_cons, List.drop_zero]
  repeat still_step
  refine wpStill_nil ?_
  change wpList _ _ _ _ _ W0.drew
  go_wp2_with fail
  refine (rlay_any g r e a0 e false (a0, ws0) _ (by omega) he HS0.out.drew HG0.out.2).mono ?_
  rintro e' w1 ⟨rfl, hS2, hG2⟩
  have HS2 : Hid (RSp w1 g r e false (a0, lay ws0 a0 e)) := Lib.hid hS2
  have HG2 := Lib.hid (only_then (only_drew (World.grownBy.refl W0 (some g))) hG2 (.inl rfl))
  have HO2 := Lib.hid (ok_lay HG0.out.2 a0 e (by omega))
  clear hS2 hG2 c0 c1 c2 c3
  have c3 := HS2.out.rate
  have hr1 : ((r - 1 : Nat) : Int) = (r : Int) - 1 := by omega
  have HR1 := Lib.hid hr1; clear hr1
  go_wp2_with fail
  rw [← HR1.out]
  refine (rlay_any g r e (r - 1) 128 false _ _ (by omega) (by omega) HS2.out HO2.out).mono ?_
  rintro e' w2 ⟨rfl, hS3, hG3⟩
  obtain ⟨us, hus⟩ : ∃ us, lay (lay ws0 a0 e) (r - 1) 128 = us := ⟨_, rfl⟩
  have HO3 := Lib.hid (ok_lay HO2.out (r - 1) 128 (by omega))
  rw [hus] at HO3
  have HS3 : Hid (RSp w2 g r e false (a0, us)) := Lib.hid (by rw [← hus]; exact hS3)
  have HG3 := Lib.hid (only_then HG2.out hG3 (.inl rfl))
  have HSU : Hid (s = (0, change us)) := Lib.hid (by rw [← HSE.out, ← hus]; rfl)
  clear hS3 hG3 hus c3 HS2 HG2 HO2
  go_wp2_with (refine wpList_load_mid (op := ⟨some 40, .load 72 (.tmp 39), _, _, _, none⟩) rfl 72 (.tmp 39) rfl g 2 (by rfl) (words (tp us)).toList _ (HS3.out.range (tab_len _)) Tryd.underlying72 rfl (tp_size us) ?_)
  refine (rchange_words us _ HO3.out).mono ?_
  rintro e' w4 ⟨rfl, hB4⟩
  have HB4 := Lib.hid hB4; clear hB4
  have hokc := ok_change HO3.out
  generalize change us = m2 at *
  have HOKC := Lib.hid hokc; clear hokc
  go_wp2_with ((refine wpList_store_mid (op := ⟨none, .store 72 (.tmp 43) (.tmp 41), _, _, _, none⟩) rfl 72 (.tmp 43) (.tmp 41) rfl g 2 (words (tp m2)) (by rfl) (by rfl) (tp_there HS3.out HB4.out m2) (tp_size' m2) (words_one _) ?_); have HS5 := Lib.hid (HS3.out.chg HB4.out m2); have HG5 := Lib.hid (only_chg HG3.out HB4.out m2); generalize w4.setCells g 2 (words (tp m2)).toList = w5 at *; have ca := HS5.out.at_; have fa := HS5.out.frozen 27; dsimp only at ca; have HS6 : Hid (RSp (w5.setCell ⟨g, 27, none⟩ (.int .i64 0)) g r e false (0, m2)) := Lib.hid (HS5.out.setAt 0); have HG6 := Lib.hid (only_set HG5.out (p := ⟨g, 27, none⟩) (.inl rfl) (.int .i64 0)); have cg : (w5.setCell ⟨g, 27, none⟩ (.int .i64 0)).cell? ⟨g, 28, none⟩ = some (.bool false) := HS6.out.gives; have fg : (w5.setCell ⟨g, 27, none⟩ (.int .i64 0)).frozen? ⟨g, 28, none⟩ = false := HS6.out.frozen 28)
  have HS7 : Hid (RSp ((w5.setCell ⟨g, 27, none⟩ (.int .i64 0)).setCell ⟨g, 28, none⟩ (.bool true)) g r e true (0, m2)) := Lib.hid (HS6.out.setGives true)
  have HGX : Hid (W0.grownBy ((w5.setCell ⟨g, 27, none⟩ (.int .i64 0)).setCell ⟨g, 28, none⟩ (.bool true)) (some g)) := Lib.hid (only_set HG6.out (p := ⟨g, 28, none⟩) (.inl rfl) (.bool true))
  clear ca fa cg fg HS5 HG5 HS6 HG6 HS3 HG3
  generalize (w5.setCell ⟨g, 27, none⟩ (.int .i64 0)).setCell ⟨g, 28, none⟩ (.bool true) = wX at *
  have HLZ : Hid (LzAt wX g r e s 0) := Lib.hid ⟨0, m2, HS7.out, by omega, HOKC.out, by show normR r (0, m2) = s; rw [HSU.out, normR, if_neg (by show ¬ 0 = r; omega)]⟩
  clear HS7 HOKC HSU
  go_loopw [5, 6] (fun o i W => ∃ k : Nat, k ≤ n ∧ i = .int .i64 k ∧ Hid (W.ownsRow W0.heap.size 5 1 o k (bcells (outs r s k))) ∧ Hid (LzAt W g r e s k) ∧ Hid (W0.grownBy W (some g))) (fun _ i _ => n - (intOf i).toNat)
  case atStart => exact ⟨0, by omega, rfl, Lib.hid (World.ownsRow_nil _ _ _ _), HLZ, HGX⟩
  case round =>
    obtain ⟨k, hk, rfl, HO1, HL1, HG1⟩ := hrel
    obtain ⟨a, ws, hS1, hle, hok, hnorm⟩ := HL1.out
    have HS1 := Lib.hid hS1; have HOK := Lib.hid hok; have HNM := Lib.hid hnorm; clear hS1 hok hnorm HL1
    by_cases hkn : k < n
    · have hkn' : (k : Int) < (n : Int) := by omega
      have cr := HS1.out.rate
      have ca := HS1.out.at_
      dsimp only at ca
      by_cases har : a = r
      · have hd : ((a : Int) == (r : Int)) = true := by rw [beq_iff_eq]; omega
        have HNM1 : Hid (after r s k = (0, change ws)) := Lib.hid (by rw [← HNM.out, normR, if_pos har])
        have HAR := Lib.hid har; clear har
        go_wp2
        go_quiet (fail)
        have HS3 : Hid (RSp (wr.drewN nq) g r e true (a, ws)) := Lib.hid HS1.out
        have HG3 := Lib.hid (only_drewN HG1.out nq)
        have HO3 : Hid ((wr.drewN nq).ownsRow W0.heap.size 5 1 u5 k (bcells (outs r s k))) := Lib.hid HO1.out
        generalize wr.drewN nq = w3 at *
        clear cr ca HS1 HG1 HO1
        go_wp2_with (refine wpList_load_mid (op := ⟨some 68, .load 72 (.tmp 67), _, _, _, none⟩) rfl 72 (.tmp 67) rfl g 2 (by rfl) (words (tp ws)).toList _ (HS3.out.range (tab_len _)) Tryd.underlying72 rfl (tp_size ws) ?_)
        refine (rchange_words ws _ HOK.out).mono ?_
        rintro e' w4 ⟨rfl, hB4⟩
        have HB4 := Lib.hid hB4; clear hB4
        have hokc := ok_change HOK.out
        generalize change ws = m2 at *
        have HOKC := Lib.hid hokc; clear hokc
        go_wp2_with ((refine wpList_store_mid (op := ⟨none, .store 72 (.tmp 71) (.tmp 69), _, _, _, none⟩) rfl 72 (.tmp 71) (.tmp 69) rfl g 2 (words (tp m2)) (by rfl) (by rfl) (tp_there HS3.out HB4.out m2) (tp_size' m2) (words_one _) ?_); have HS5 := Lib.hid (HS3.out.chg HB4.out m2); have HG5 := Lib.hid (only_chg HG3.out HB4.out m2); have HO5 := Lib.hid ((HO3.out.kept (only_of_below HB4.out none) (ownNone HO3.out)).kept (only_setCells (words (tp m2)).toList 2 w4 (World.grownBy.refl w4 (some g))) (ownNe HO3.out hlt)); generalize w4.setCells g 2 (words (tp m2)).toList = w5 at *; have ca := HS5.out.at_; have fa := HS5.out.frozen 27; dsimp only at ca)
        have HS6 : Hid (RSp (w5.setCell ⟨g, 27, none⟩ (.int .i64 0)) g r e true (0, m2)) := Lib.hid (HS5.out.setAt 0)
        have HG6 := Lib.hid (only_set HG5.out (p := ⟨g, 27, none⟩) (.inl rfl) (.int .i64 0))
        have HO6 := Lib.hid (ownsRow_setCell_below (a := ⟨g, 27, none⟩) HO5.out hlt (.int .i64 0))
        generalize w5.setCell ⟨g, 27, none⟩ (.int .i64 0) = w6 at *
        clear ca fa
        as_aux_lemma =>
        have cr6 := HS6.out.at_
        have fa6 := HS6.out.frozen 27
        have cw6 : w6.cell? ⟨g, 2, none⟩ = some (.int .u64 (gt (tp m2) 0 : Nat)) := by
          exact HS6.out.cell 0 (by omega)
        have HBT := Lib.hid (byte_zero m2)
        dsimp only at cr6
        obtain ⟨bi, hbi, hbz, hbs, hbb⟩ := byteInfo
        have HBI := Lib.hid hbi; have HBZ := Lib.hid hbz; have HBS := Lib.hid hbs; have HBB := Lib.hid hbb; clear hbi hbz hbs hbb
        have hb0 : W0.heap.size ≤ w6.heap.size := HG6.out.size
        have z1 : (0 : Int).tdiv 5 = 0 := rfl
        have z2 : (0 : Int).tmod 5 = 0 := rfl
        have z3 : (0 : Int).tmod 8 = 0 := rfl
        have z4 : IntKind.i64.wrap 0 = 0 := by decide
        have hmx : k + 1 ≤ maxLen := by unfold maxLen; omega
        have kal : ∀ o : Obj, (w6.alloc o).drew.cell? ⟨g, 2, none⟩ = w6.cell? ⟨g, 2, none⟩ := fun o => World.cell?_alloc_lt w6 o _ (by show g < w6.heap.size; omega)
        have kal2 : ∀ o : Obj, (w6.alloc o).drew.cell? ⟨g, 27, none⟩ = w6.cell? ⟨g, 27, none⟩ := fun o => World.cell?_alloc_lt w6 o _ (by show g < w6.heap.size; omega)
        have k1' := (kal (.cells #[.int .u8 (((gt (tp m2) 0 : Nat) : Int) % 256)] 5)).trans cw6
        have k2' := (kal2 (.cells #[.int .u8 (((gt (tp m2) 0 : Nat) : Int) % 256)] 5)).trans cr6
        have hgsz : g < (w6.alloc (.cells #[.int .u8 (((gt (tp m2) 0 : Nat) : Int) % 256)] 5)).drew.heap.size := by simp; omega
        have hbsz : W0.heap.size ≤ (w6.alloc (.cells #[.int .u8 (((gt (tp m2) 0 : Nat) : Int) % 256)] 5)).drew.heap.size := by simp; omega
        have HK1 := Lib.hid k1'; have HK2 := Lib.hid k2'
        have hk1 : (k + 1) * 1 ≤ 140737488355328 := by omega
        have h01 : 0 < 1 := by omega
        clear k1' k2' kal kal2
        go_region_held3 (fun w' => w'.cell? ⟨g, 2, none⟩ = some (.int .u64 (gt (tp m2) 0 : Nat)) ∧ w'.cell? ⟨g, 27, none⟩ = some (.int .i64 0)) (first | go_keep | (exact ⟨HK1.out, HK2.out⟩) | (exact ⟨k1, k2⟩)) (first | ((refine step_append_lies _ rfl (.tmp 80) (.tmp 99) 22 ?ho0 W0.heap.size 5 bi (.int .u8 0) 1 1 Tryd.underlying22 HBI.out HBZ.out HBS.out HBB.out rfl h01 u5 k (bcells (outs r s k)) ?hs0 (HO6.out.alloc (.cells #[.int .u8 (((gt (tp m2) 0 : Nat) : Int) % 256)] 5)).drew ⟨w6.heap.size, 0, none⟩ 1 1 [.int .u8 (((gt (tp m2) 0 : Nat) : Int) % 256)] ?hx20 rfl (news_one w6 _) (one_val _) h01 hmx hk1 hbsz _ rfl ?hk0; (case ho0 => rfl); (case hs0 => rfl); (case hx20 => rfl); intro g' cap w7 hown hgrow hat hltg; have k1 : w7.cell? ⟨g, 2, none⟩ = some (.int .u64 (gt (tp m2) 0 : Nat)) := (hgrow.cell_far ⟨g, 2, none⟩ hgsz (ownNe' HO6.out hlt)).trans HK1.out; have k2 : w7.cell? ⟨g, 27, none⟩ = some (.int .i64 0) := (hgrow.cell_far ⟨g, 27, none⟩ hgsz (ownNe' HO6.out hlt)).trans HK2.out)))
        have hown' : w7.ownsRow W0.heap.size 5 1 (.slice (some ⟨g', 0, none⟩) (k + 1) cap) (k + 1) (bcells (outs r s k ++ [byteAt m2 0])) := by rw [bcells_append, show bcells [byteAt m2 0] = [.int .u8 (((gt (tp m2) 0 : Nat) : Int) % 256)] from by rw [HBT.out]; rfl]; exact hown
        have HO7 : Hid (w7.ownsRow W0.heap.size 5 1 (.slice (some ⟨g', 0, none⟩) (k + 1) cap) (k + 1) (bcells (outs r s (k + 1)))) := Lib.hid (by rw [outs_succ, show outAt r s k = byteAt m2 0 from by rw [outAt, HNM1.out]]; exact hown')
        have HS7 : Hid (RSp w7 g r e true (0, m2)) := Lib.hid (((HS6.out.alloc (.cells #[.int .u8 (((gt (tp m2) 0 : Nat) : Int) % 256)] 5)).drew).grown hgrow (ownNe' HO6.out hlt))
        have HG7 : Hid (W0.grownBy w7 (some g)) := Lib.hid (grown_own (only_drew (only_alloc HG6.out (.cells #[.int .u8 (((gt (tp m2) 0 : Nat) : Int) % 256)] 5))) hgrow HO6.out)
        clear hown hown' hgrow hat hltg cr6 fa6 cw6 k1 k2 hgsz hbsz
        have ca7 := HS7.out.at_
        have fa7 := HS7.out.frozen 27
        dsimp only at ca7
        go_wp2
        go_roundw
        case rel =>
          refine ⟨k + 1, by omega, by go_num, Lib.hid (ownsRow_setCell_below (a := ⟨g, 27, none⟩) HO7.out hlt _), Lib.hid ⟨1, m2, HS7.out.setAt 1, by omega, HOKC.out, ?_⟩, Lib.hid (only_set HG7.out (.inl rfl) _)⟩
          show normR r (0 + 1, m2) = stepAt r (after r s k)
          rw [HNM1.out]; rfl
        case measure => simp [intOf]; omega
      · have hd : ((a : Int) == (r : Int)) = false := by rw [beq_eq_false_iff_ne]; omega
        have hal : a < r := by omega
        have HNM2 : Hid (after r s k = (a, ws)) := Lib.hid (by rw [← HNM.out, normR, if_neg har])
        have HOK6 := HOK
        clear har
        go_wp2
        go_quiet (fail)
        go_wp2
        have HS6 : Hid (RSp (wr.drewN nq) g r e true (a, ws)) := Lib.hid HS1.out
        have HG6 := Lib.hid (only_drewN HG1.out nq)
        have HO6 : Hid ((wr.drewN nq).ownsRow W0.heap.size 5 1 u5 k (bcells (outs r s k))) := Lib.hid HO1.out
        generalize wr.drewN nq = w6 at *
        clear cr ca HS1 HG1 HO1
        as_aux_lemma =>
        have cr6 := HS6.out.at_
        have fa6 := HS6.out.frozen 27
        have cw6 : w6.cell? ⟨g, 2 + a / 8 % 5 * 5 + a / 8 / 5, none⟩ = some (.int .u64 (gt (tp ws) (5 * (a / 8 % 5) + a / 8 / 5) : Nat)) := by
          rw [← HS6.out.cell (5 * (a / 8 % 5) + a / 8 / 5) (by omega)]; congr 2; omega
        have HBT := Lib.hid (byte_tp ws a (by omega))
        dsimp only at cr6
        obtain ⟨bi, hbi, hbz, hbs, hbb⟩ := byteInfo
        have HBI := Lib.hid hbi; have HBZ := Lib.hid hbz; have HBS := Lib.hid hbs; have HBB := Lib.hid hbb; clear hbi hbz hbs hbb
        have hb0 : W0.heap.size ≤ w6.heap.size := HG6.out.size
        have hmx : k + 1 ≤ maxLen := by unfold maxLen; omega
        have q1 : ((a : Int) / 8).tmod 5 = (a : Int) / 8 % 5 := Int.tmod_eq_emod_of_nonneg (by omega)
        have q2 : ((a : Int) / 8).tdiv 5 = (a : Int) / 8 / 5 := Int.tdiv_eq_ediv_of_nonneg (by omega)
        have q3 : IntKind.i64.wrap ((a : Int) / 8 / 5) = (a : Int) / 8 / 5 := IntWalk.i64_in _ (by omega)
        have q4 : IntKind.i64.wrap ((a : Int) / 8 % 5) = (a : Int) / 8 % 5 := IntWalk.i64_in _ (by omega)
        have q5 : 0 ≤ (a : Int) / 8 % 5 := by omega
        have q6 : (a : Int) / 8 % 5 < 5 := by omega
        have q7 : 0 ≤ (a : Int) / 8 / 5 := by omega
        have q8 : (a : Int) / 8 / 5 < 5 := by omega
        have q9 : ((a : Int) / 8 % 5).toNat = a / 8 % 5 := by omega
        have q10 : ((a : Int) / 8 / 5).toNat = a / 8 / 5 := by omega
        have q11 : (a : Int).tmod 8 = (a : Int) % 8 := Int.tmod_eq_emod_of_nonneg (by omega)
        have q12 : IntKind.i64.wrap (8 * ((a : Int) % 8)) = 8 * ((a : Int) % 8) := IntWalk.i64_in _ (by omega)
        have q13 : 0 ≤ 8 * ((a : Int) % 8) := by omega
        have q14 : (8 * ((a : Int) % 8)).toNat = 8 * (a % 8) := by omega
        have q15 : min (8 * (a % 8)) 64 = 8 * (a % 8) := by omega
        have kal : ∀ o : Obj, (w6.alloc o).drew.cell? ⟨g, 2 + a / 8 % 5 * 5 + a / 8 / 5, none⟩ = w6.cell? ⟨g, 2 + a / 8 % 5 * 5 + a / 8 / 5, none⟩ := fun o => World.cell?_alloc_lt w6 o _ (by show g < w6.heap.size; omega)
        have kal2 : ∀ o : Obj, (w6.alloc o).drew.cell? ⟨g, 27, none⟩ = w6.cell? ⟨g, 27, none⟩ := fun o => World.cell?_alloc_lt w6 o _ (by show g < w6.heap.size; omega)
        have k1' := (kal (.cells #[.int .u8 (((gt (tp ws) (5 * (a / 8 % 5) + a / 8 / 5) : Nat) : Int) / 2 ^ (8 * (a % 8)) % 256)] 5)).trans cw6
        have k2' := (kal2 (.cells #[.int .u8 (((gt (tp ws) (5 * (a / 8 % 5) + a / 8 / 5) : Nat) : Int) / 2 ^ (8 * (a % 8)) % 256)] 5)).trans cr6
        have hgsz : g < (w6.alloc (.cells #[.int .u8 (((gt (tp ws) (5 * (a / 8 % 5) + a / 8 / 5) : Nat) : Int) / 2 ^ (8 * (a % 8)) % 256)] 5)).drew.heap.size := by simp; omega
        have hbsz : W0.heap.size ≤ (w6.alloc (.cells #[.int .u8 (((gt (tp ws) (5 * (a / 8 % 5) + a / 8 / 5) : Nat) : Int) / 2 ^ (8 * (a % 8)) % 256)] 5)).drew.heap.size := by simp; omega
        have HK1 := Lib.hid k1'; have HK2 := Lib.hid k2'
        have hk1 : (k + 1) * 1 ≤ 140737488355328 := by omega
        have h01 : 0 < 1 := by omega
        clear k1' k2' kal kal2
        go_region_held3 (fun w' => w'.cell? ⟨g, 2 + a / 8 % 5 * 5 + a / 8 / 5, none⟩ = some (.int .u64 (gt (tp ws) (5 * (a / 8 % 5) + a / 8 / 5) : Nat)) ∧ w'.cell? ⟨g, 27, none⟩ = some (.int .i64 (a : Nat))) (first | go_keep | (exact ⟨HK1.out, HK2.out⟩) | (exact ⟨k1, k2⟩)) (first | ((refine step_append_lies _ rfl (.tmp 80) (.tmp 99) 22 ?ho W0.heap.size 5 bi (.int .u8 0) 1 1 Tryd.underlying22 HBI.out HBZ.out HBS.out HBB.out rfl h01 u5 k (bcells (outs r s k)) ?hs (HO6.out.alloc (.cells #[.int .u8 (((gt (tp ws) (5 * (a / 8 % 5) + a / 8 / 5) : Nat) : Int) / 2 ^ (8 * (a % 8)) % 256)] 5)).drew ⟨w6.heap.size, 0, none⟩ 1 1 [.int .u8 (((gt (tp ws) (5 * (a / 8 % 5) + a / 8 / 5) : Nat) : Int) / 2 ^ (8 * (a % 8)) % 256)] ?hx2 rfl (news_one w6 _) (one_val _) h01 hmx hk1 hbsz _ rfl ?hk; (case ho => rfl); (case hs => rfl); (case hx2 => rfl); intro g' cap w7 hown hgrow hat hltg; have k1 : w7.cell? ⟨g, 2 + a / 8 % 5 * 5 + a / 8 / 5, none⟩ = some (.int .u64 (gt (tp ws) (5 * (a / 8 % 5) + a / 8 / 5) : Nat)) := (hgrow.cell_far ⟨g, 2 + a / 8 % 5 * 5 + a / 8 / 5, none⟩ hgsz (ownNe' HO6.out hlt)).trans HK1.out; have k2 : w7.cell? ⟨g, 27, none⟩ = some (.int .i64 (a : Nat)) := (hgrow.cell_far ⟨g, 27, none⟩ hgsz (ownNe' HO6.out hlt)).trans HK2.out)))
        have hown' : w7.ownsRow W0.heap.size 5 1 (.slice (some ⟨g', 0, none⟩) (k + 1) cap) (k + 1) (bcells (outs r s k ++ [byteAt ws a])) := by rw [bcells_append, show bcells [byteAt ws a] = [.int .u8 (((gt (tp ws) (5 * (a / 8 % 5) + a / 8 / 5) : Nat) : Int) / 2 ^ (8 * (a % 8)) % 256)] from by rw [HBT.out]; rfl]; exact hown
        have HO7 : Hid (w7.ownsRow W0.heap.size 5 1 (.slice (some ⟨g', 0, none⟩) (k + 1) cap) (k + 1) (bcells (outs r s (k + 1)))) := Lib.hid (by rw [outs_succ, show outAt r s k = byteAt ws a from by rw [outAt, HNM2.out]]; exact hown')
        have HS7 : Hid (RSp w7 g r e true (a, ws)) := Lib.hid (((HS6.out.alloc (.cells #[.int .u8 (((gt (tp ws) (5 * (a / 8 % 5) + a / 8 / 5) : Nat) : Int) / 2 ^ (8 * (a % 8)) % 256)] 5)).drew).grown hgrow (ownNe' HO6.out hlt))
        have HG7 : Hid (W0.grownBy w7 (some g)) := Lib.hid (grown_own (only_drew (only_alloc HG6.out (.cells #[.int .u8 (((gt (tp ws) (5 * (a / 8 % 5) + a / 8 / 5) : Nat) : Int) / 2 ^ (8 * (a % 8)) % 256)] 5))) hgrow HO6.out)
        clear hown hown' hgrow hat hltg cr6 fa6 cw6 q1 q2 q3 q4 q9 q10 q11 q12 q14 q15 k1 k2 hgsz hbsz
        have ca7 := HS7.out.at_
        have fa7 := HS7.out.frozen 27
        dsimp only at ca7
        go_wp2
        go_roundw
        case rel =>
          refine ⟨k + 1, by omega, by go_num, Lib.hid (ownsRow_setCell_below (a := ⟨g, 27, none⟩) HO7.out hlt _), Lib.hid ⟨a + 1, ws, HS7.out.setAt (a + 1), by omega, HOK6.out, ?_⟩, Lib.hid (only_set HG7.out (.inl rfl) _)⟩
          show normR r (a + 1, ws) = stepAt r (after r s k)
          rw [HNM2.out]; rfl
        case measure => simp [intOf]; omega
    · obtain rfl : k = n := by omega
      go_wp2
      go_ret
      exact ⟨_, rfl, HO1.out, ⟨a, ws, HS1.out, hle, HOK.out, HNM.out⟩, HG1.out⟩

end Go.Proofs.YtdkhiooiakdecaaDoorR.Kec
