/- Walks of the document's own: Read. -/
import Derived.Test.YtdkhiooiakdecaaDoorRKecRefE
import Derived.IntWalk
import Derived.Deep.RegionHeld3
import Derived.Deep.DeepMust
namespace Go.Proofs.YtdkhiooiakdecaaDoorR.Kec
set_option linter.all false
open Go.RowKit

/-- the document changes late: behind the rate's last byte, when the next one is asked for -/
def normR (r : Nat) (p : Nat × List Nat) : Nat × List Nat := if p.1 = r then (0, change p.2) else p
def LzAt (W : World) (g r e : Nat) (s : Nat × List Nat) (k : Nat) : Prop := ∃ a ws, RSp W g r e true (a, ws) ∧ a ≤ r ∧ Ok ws ∧ normR r (a, ws) = after r s k
theorem ownNe {w : World} {B g n : Nat} {v : Value} {xs : List Value} (h : w.ownsRow B 5 1 v n xs) (hB : g < B) : v.ownBlock = none ∨ v.ownBlock ≠ some g := by
  cases hq : v.ownBlock with
  | none => exact .inl rfl
  | some x => exact .inr (by have := (h.lt x hq).1; intro e; injection e; omega)
theorem ownNone {w : World} {B n : Nat} {v : Value} {xs : List Value} (_h : w.ownsRow B 5 1 v n xs) : v.ownBlock = none ∨ v.ownBlock ≠ none := by
  cases v.ownBlock <;> simp
theorem byte_tp (ws : List Nat) (a : Nat) (h : a < 200) : ((gt (tp ws) (5 * (a / 8 % 5) + a / 8 / 5) : Nat) : Int) / 2 ^ (8 * (a % 8)) % 256 = ((byteAt ws a : Nat) : Int) := by
  rw [gt_tp ws (a / 8) (by omega)]; exact byteAt_bits ws a
theorem ownNe' {w : World} {B g n : Nat} {v : Value} {xs : List Value} (h : w.ownsRow B 5 1 v n xs) (hB : g < B) : some g ≠ v.ownBlock := by
  intro e
  have := (h.lt g e.symm).1
  omega
theorem grown_own {a w w' wx : World} {g n : Nat} {v : Value} {xs : List Value} (h : a.grownBy w (some g)) (k : w.grownBy w' v.ownBlock) (ho : wx.ownsRow a.heap.size 5 1 v n xs) : a.grownBy w' (some g) :=
  ⟨k.os.trans h.os, k.tape.trans h.tape, k.output.trans h.output, Nat.le_trans h.size k.size, fun i hi hne =>
    (k.block i (Nat.lt_of_lt_of_le hi h.size) (fun e => by have := (ho.lt i e.symm).1; omega)).trans (h.block i hi hne)⟩
theorem news_one (w : World) (v : Value) : ∀ j u, [v][j]? = some u → ((w.alloc (.cells #[v] 5)).drew).cell? ((⟨w.heap.size, 0, none⟩ : Addr).add j) = some u := by
  intro j u hu
  cases j with
  | zero =>
    have : u = v := by simpa using hu.symm
    subst this
    have := cell_of_row (w.alloc (.cells #[u] 5)) w.heap.size 0 _ 5 (0, 0) (heap_alloc_last w _)
    simp only [Addr.add, if_pos]
    exact this
  | succ j => simp at hu
theorem byte_zero (ws : List Nat) : ((gt (tp ws) 0 : Nat) : Int) % 256 = ((byteAt ws 0 : Nat) : Int) := by
  have := byte_tp ws 0 (by omega)
  simpa using this
theorem one_val (x : Int) : ∀ u ∈ [Value.int .u8 x], u.oneCell' = true := fun u hu => by rw [List.mem_singleton.1 hu]; rfl
theorem outs_succ (r : Nat) (s : Nat × List Nat) (k : Nat) : outs r s (k + 1) = outs r s k ++ [outAt r s k] := by
  unfold outs; rw [List.range_succ, List.map_append]; rfl
set_option maxHeartbeats 1000000 in
set_option maxRecDepth 100000 in
theorem rread_bad (g : Nat) (n : Int) (w : World) (h : n < 0 ∨ 65536 < n) :
    Calls Tryd.prog 56 #[.pointer (some ⟨g, 0, none⟩), .int .i64 n] w fun e' w' => e' = .returned (.slice none 0 0) ∧ w = w' := by
  by_cases h1 : n < 0
  · go_enter Tryd.func56, Tryd.ntmps56
    go_wp2
    go_ret
    exact ⟨rfl, rfl⟩
  · have h2 : 65536 < n := by omega
    go_enter Tryd.func56, Tryd.ntmps56
    go_wp2
    go_ret
    exact ⟨rfl, rfl⟩

set_option maxHeartbeats 6000000 in
set_option maxRecDepth 100000 in
theorem rread_gives (g r e : Nat) (s p : Nat × List Nat) (n : Nat) (W0 : World) (hLZ : LzAt W0 g r e s 0) (hr : r ≤ 192) (hr0 : 0 < r) (hn : n ≤ 65536) :
    Calls Tryd.prog 56 #[.pointer (some ⟨g, 0, none⟩), .int .i64 n] W0 fun e' w' => ∃ v, e' = .returned v ∧ w'.ownsRow W0.heap.size 5 1 v n (bcells (outs r s n)) ∧ LzAt w' g r e s n ∧ W0.grownBy w' (some g) := by
  have hlt : g < W0.heap.size := by obtain ⟨a, ws, h, _⟩ := hLZ; exact h.2.lt
  have c0 : W0.cell? ⟨g, 28, none⟩ = some (.bool true) := by obtain ⟨a, ws, h, _⟩ := hLZ; exact h.gives
  have HLZ := Lib.hid hLZ; clear hLZ
  have h1 : ¬ ((n : Int) < 0) := by omega
  have h2 : ¬ (65536 < (n : Int)) := by omega
  go_enter Tryd.func56, Tryd.ntmps56
  go_wp2
  clear c0
  go_loopw [5, 6] (fun o i W => ∃ k : Nat, k ≤ n ∧ i = .int .i64 k ∧ Hid (W.ownsRow W0.heap.size 5 1 o k (bcells (outs r s k))) ∧ Hid (LzAt W g r e s k) ∧ Hid (W0.grownBy W (some g))) (fun _ i _ => n - (intOf i).toNat)
  case atStart => exact ⟨0, by omega, rfl, Lib.hid (World.ownsRow_nil _ _ _ _), HLZ, Lib.hid (World.grownBy.refl _ _)⟩
  case round =>
    obtain ⟨k, hk, rfl, HO1, HL1, HG1⟩ := hrel
    obtain ⟨a, ws, hS1, hle, hok, hnorm⟩ := HL1.out
    have HS1 := Lib.hid hS1; have HOK := Lib.hid hok; have HNM := Lib.hid hnorm; clear hS1 hok hnorm HL1
    by_cases hkn : k < n
    · have hkn' : (k : Int) < (n : Int) := by omega
      have cr := HS1.out.rate
      have ca := HS1.out.at_
      dsimp only at ca
      by_cases har : a = r
      · have hd : ((a : Int) == (r : Int)) = true := by rw [beq_iff_eq]; omega
        have HNM1 : Hid (after r s k = (0, change ws)) := Lib.hid (by rw [← HNM.out, normR, if_pos har])
        have HAR := Lib.hid har; clear har
        go_wp2
        go_quiet (fail)
        have HS3 : Hid (RSp (wr.drewN nq) g r e true (a, ws)) := Lib.hid HS1.out
        have HG3 := Lib.hid (only_drewN HG1.out nq)
        have HO3 : Hid ((wr.drewN nq).ownsRow W0.heap.size 5 1 u5 k (bcells (outs r s k))) := Lib.hid HO1.out
        generalize wr.drewN nq = w3 at *
        clear cr ca HS1 HG1 HO1
        go_wp2_with (refine wpList_load_mid (op := ⟨some 68, .load 72 (.tmp 67), _, _, _, none⟩) rfl 72 (.tmp 67) rfl g 2 (by rfl) (words (tp ws)).toList _ (HS3.out.range (tab_len _)) Tryd.underlying72 rfl (tp_size ws) ?_)
        refine (rchange_words ws _ HOK.out).mono ?_
        rintro e' w4 ⟨rfl, hB4⟩
        have HB4 := Lib.hid hB4; clear hB4
        have hokc := ok_change HOK.out
        generalize change ws = m2 at *
        have HOKC := Lib.hid hokc; clear hokc
        go_wp2_with ((refine wpList_store_mid (op := ⟨none, .store 72 (.tmp 71) (.tmp 69), _, _, _, none⟩) rfl 72 (.tmp 71) (.tmp 69) rfl g 2 (words (tp m2)) (by rfl) (by rfl) (tp_there HS3.out HB4.out m2) (tp_size' m2) (words_one _) ?_); have HS5 := Lib.hid (HS3.out.chg HB4.out m2); have HG5 := Lib.hid (only_chg HG3.out HB4.out m2); have HO5 := Lib.hid ((HO3.out.kept (only_of_below HB4.out none) (ownNone HO3.out)).kept (only_setCells (words (tp m2)).toList 2 w4 (World.grownBy.refl w4 (some g))) (ownNe HO3.out hlt)); generalize w4.setCells g 2 (words (tp m2)).toList = w5 at *; have ca := HS5.out.at_; have fa := HS5.out.frozen 27; dsimp only at ca)
        have HS6 : Hid (RSp (w5.setCell ⟨g, 27, none⟩ (.int .i64 0)) g r e true (0, m2)) := Lib.hid (HS5.out.setAt 0)
        have HG6 := Lib.hid (only_set HG5.out (p := ⟨g, 27, none⟩) (.inl rfl) (.int .i64 0))
        have HO6 := Lib.hid (ownsRow_setCell_below (a := ⟨g, 27, none⟩) HO5.out hlt (.int .i64 0))
        generalize w5.setCell ⟨g, 27, none⟩ (.int .i64 0) = w6 at *
        clear ca fa
        as_aux_lemma =>
        have cr6 := HS6.out.at_
        have fa6 := HS6.out.frozen 27
        have cw6 : w6.cell? ⟨g, 2, none⟩ = some (.int .u64 (gt (tp m2) 0 : Nat)) := by
          exact HS6.out.cell 0 (by omega)
        have HBT := Lib.hid (byte_zero m2)
        dsimp only at cr6
        obtain ⟨bi, hbi, hbz, hbs, hbb⟩ := byteInfo
        have HBI := Lib.hid hbi; have HBZ := Lib.hid hbz; have HBS := Lib.hid hbs; have HBB := Lib.hid hbb; clear hbi hbz hbs hbb
        have hb0 : W0.heap.size ≤ w6.heap.size := HG6.out.size
        have z1 : (0 : Int).tdiv 5 = 0 := rfl
        have z2 : (0 : Int).tmod 5 = 0 := rfl
        have z3 : (0 : Int).tmod 8 = 0 := rfl
        have z4 : IntKind.i64.wrap 0 = 0 := by decide
        have hmx : k + 1 ≤ maxLen := by unfold maxLen; omega
        have kal : ∀ o : Obj, (w6.alloc o).drew.cell? ⟨g, 2, none⟩ = w6.cell? ⟨g, 2, none⟩ := fun o => World.cell?_alloc_lt w6 o _ (by show g < w6.heap.size; omega)
        have kal2 : ∀ o : Obj, (w6.alloc o).drew.cell? ⟨g, 27, none⟩ = w6.cell? ⟨g, 27, none⟩ := fun o => World.cell?_alloc_lt w6 o _ (by show g < w6.heap.size; omega)
        have k1' := (kal (.cells #[.int .u8 (((gt (tp m2) 0 : Nat) : Int) % 256)] 5)).trans cw6
        have k2' := (kal2 (.cells #[.int .u8 (((gt (tp m2) 0 : Nat) : Int) % 256)] 5)).trans cr6
        have hgsz : g < (w6.alloc (.cells #[.int .u8 (((gt (tp m2) 0 : Nat) : Int) % 256)] 5)).drew.heap.size := by simp; omega
        have hbsz : W0.heap.size ≤ (w6.alloc (.cells #[.int .u8 (((gt (tp m2) 0 : Nat) : Int) % 256)] 5)).drew.heap.size := by simp; omega
        have HK1 := Lib.hid k1'; have HK2 := Lib.hid k2'
        have hk1 : (k + 1) * 1 ≤ 140737488355328 := by omega
        have h01 : 0 < 1 := by omega
        clear k1' k2' kal kal2
        go_region_held3 (fun w' => w'.cell? ⟨g, 2, none⟩ = some (.int .u64 (gt (tp m2) 0 : Nat)) ∧ w'.cell? ⟨g, 27, none⟩ = some (.int .i64 0)) (first | go_keep | (exact ⟨HK1.out, HK2.out⟩) | (exact ⟨k1, k2⟩)) (first | ((refine step_append_lies _ rfl (.tmp 80) (.tmp 99) 22 ?ho0 W0.heap.size 5 bi (.int .u8 0) 1 1 Tryd.underlying22 HBI.out HBZ.out HBS.out HBB.out rfl h01 u5 k (bcells (outs r s k)) ?hs0 (HO6.out.alloc (.cells #[.int .u8 (((gt (tp m2) 0 : Nat) : Int) % 256)] 5)).drew ⟨w6.heap.size, 0, none⟩ 1 1 [.int .u8 (((gt (tp m2) 0 : Nat) : Int) % 256)] ?hx20 rfl (news_one w6 _) (one_val _) h01 hmx hk1 hbsz _ rfl ?hk0; (case ho0 => rfl); (case hs0 => rfl); (case hx20 => rfl); intro g' cap w7 hown hgrow hat hltg; have k1 : w7.cell? ⟨g, 2, none⟩ = some (.int .u64 (gt (tp m2) 0 : Nat)) := (hgrow.cell_far ⟨g, 2, none⟩ hgsz (ownNe' HO6.out hlt)).trans HK1.out; have k2 : w7.cell? ⟨g, 27, none⟩ = some (.int .i64 0) := (hgrow.cell_far ⟨g, 27, none⟩ hgsz (ownNe' HO6.out hlt)).trans HK2.out)))
        have hown' : w7.ownsRow W0.heap.size 5 1 (.slice (some ⟨g', 0, none⟩) (k + 1) cap) (k + 1) (bcells (outs r s k ++ [byteAt m2 0])) := by rw [bcells_append, show bcells [byteAt m2 0] = [.int .u8 (((gt (tp m2) 0 : Nat) : Int) % 256)] from by rw [HBT.out]; rfl]; exact hown
        have HO7 : Hid (w7.ownsRow W0.heap.size 5 1 (.slice (some ⟨g', 0, none⟩) (k + 1) cap) (k + 1) (bcells (outs r s (k + 1)))) := Lib.hid (by rw [outs_succ, show outAt r s k = byteAt m2 0 from by rw [outAt, HNM1.out]]; exact hown')
        have HS7 : Hid (RSp w7 g r e true (0, m2)) := Lib.hid (((HS6.out.alloc (.cells #[.int .u8 (((gt (tp m2) 0 : Nat) : Int) % 256)] 5)).drew).grown hgrow (ownNe' HO6.out hlt))
        have HG7 : Hid (W0.grownBy w7 (some g)) := Lib.hid (grown_own (only_drew (only_alloc HG6.out (.cells #[.int .u8 (((gt (tp m2) 0 : Nat) : Int) % 256)] 5))) hgrow HO6.out)
        clear hown hown' hgrow hat hltg cr6 fa6 cw6 k1 k2 hgsz hbsz
        have ca7 := HS7.out.at_
        have fa7 := HS7.out.frozen 27
        dsimp only at ca7
        go_wp2
        go_roundw
        case rel =>
          refine ⟨k + 1, by omega, by go_num, Lib.hid (ownsRow_setCell_below (a := ⟨g, 27, none⟩) HO7.out hlt _), Lib.hid ⟨1, m2, HS7.out.setAt 1, by omega, HOKC.out, ?_⟩, Lib.hid (only_set HG7.out (.inl rfl) _)⟩
          show normR r (0 + 1, m2) = stepAt r (after r s k)
          rw [HNM1.out]; rfl
        case measure => simp [intOf]; omega
      · have hd : ((a : Int) == (r : Int)) = false := by rw [beq_eq_false_iff_ne]; omega
        have hal : a < r := by omega
        have HNM2 : Hid (after r s k = (a, ws)) := Lib.hid (by rw [← HNM.out, normR, if_neg har])
        have HOK6 := HOK
        clear har
        go_wp2
        go_quiet (fail)
        go_wp2
        have HS6 : Hid (RSp (wr.drewN nq) g r e true (a, ws)) := Lib.hid HS1.out
        have HG6 := Lib.hid (only_drewN HG1.out nq)
        have HO6 : Hid ((wr.drewN nq).ownsRow W0.heap.size 5 1 u5 k (bcells (outs r s k))) := Lib.hid HO1.out
        generalize wr.drewN nq = w6 at *
        clear cr ca HS1 HG1 HO1
        as_aux_lemma =>
        have cr6 := HS6.out.at_
        have fa6 := HS6.out.frozen 27
        have cw6 : w6.cell? ⟨g, 2 + a / 8 % 5 * 5 + a / 8 / 5, none⟩ = some (.int .u64 (gt (tp ws) (5 * (a / 8 % 5) + a / 8 / 5) : Nat)) := by
          rw [← HS6.out.cell (5 * (a / 8 % 5) + a / 8 / 5) (by omega)]; congr 2; omega
        have HBT := Lib.hid (byte_tp ws a (by omega))
        dsimp only at cr6
        obtain ⟨bi, hbi, hbz, hbs, hbb⟩ := byteInfo
        have HBI := Lib.hid hbi; have HBZ := Lib.hid hbz; have HBS := Lib.hid hbs; have HBB := Lib.hid hbb; clear hbi hbz hbs hbb
        have hb0 : W0.heap.size ≤ w6.heap.size := HG6.out.size
        have hmx : k + 1 ≤ maxLen := by unfold maxLen; omega
        have q1 : ((a : Int) / 8).tmod 5 = (a : Int) / 8 % 5 := Int.tmod_eq_emod_of_nonneg (by omega)
        have q2 : ((a : Int) / 8).tdiv 5 = (a : Int) / 8 / 5 := Int.tdiv_eq_ediv_of_nonneg (by omega)
        have q3 : IntKind.i64.wrap ((a : Int) / 8 / 5) = (a : Int) / 8 / 5 := IntWalk.i64_in _ (by omega)
        have q4 : IntKind.i64.wrap ((a : Int) / 8 % 5) = (a : Int) / 8 % 5 := IntWalk.i64_in _ (by omega)
        have q5 : 0 ≤ (a : Int) / 8 % 5 := by omega
        have q6 : (a : Int) / 8 % 5 < 5 := by omega
        have q7 : 0 ≤ (a : Int) / 8 / 5 := by omega
        have q8 : (a : Int) / 8 / 5 < 5 := by omega
        have q9 : ((a : Int) / 8 % 5).toNat = a / 8 % 5 := by omega
        have q10 : ((a : Int) / 8 / 5).toNat = a / 8 / 5 := by omega
        have q11 : (a : Int).tmod 8 = (a : Int) % 8 := Int.tmod_eq_emod_of_nonneg (by omega)
        have q12 : IntKind.i64.wrap (8 * ((a : Int) % 8)) = 8 * ((a : Int) % 8) := IntWalk.i64_in _ (by omega)
        have q13 : 0 ≤ 8 * ((a : Int) % 8) := by omega
        have q14 : (8 * ((a : Int) % 8)).toNat = 8 * (a % 8) := by omega
        have q15 : min (8 * (a % 8)) 64 = 8 * (a % 8) := by omega
        have kal : ∀ o : Obj, (w6.alloc o).drew.cell? ⟨g, 2 + a / 8 % 5 * 5 + a / 8 / 5, none⟩ = w6.cell? ⟨g, 2 + a / 8 % 5 * 5 + a / 8 / 5, none⟩ := fun o => World.cell?_alloc_lt w6 o _ (by show g < w6.heap.size; omega)
        have kal2 : ∀ o : Obj, (w6.alloc o).drew.cell? ⟨g, 27, none⟩ = w6.cell? ⟨g, 27, none⟩ := fun o => World.cell?_alloc_lt w6 o _ (by show g < w6.heap.size; omega)
        have k1' := (kal (.cells #[.int .u8 (((gt (tp ws) (5 * (a / 8 % 5) + a / 8 / 5) : Nat) : Int) / 2 ^ (8 * (a % 8)) % 256)] 5)).trans cw6
        have k2' := (kal2 (.cells #[.int .u8 (((gt (tp ws) (5 * (a / 8 % 5) + a / 8 / 5) : Nat) : Int) / 2 ^ (8 * (a % 8)) % 256)] 5)).trans cr6
        have hgsz : g < (w6.alloc (.cells #[.int .u8 (((gt (tp ws) (5 * (a / 8 % 5) + a / 8 / 5) : Nat) : Int) / 2 ^ (8 * (a % 8)) % 256)] 5)).drew.heap.size := by simp; omega
        have hbsz : W0.heap.size ≤ (w6.alloc (.cells #[.int .u8 (((gt (tp ws) (5 * (a / 8 % 5) + a / 8 / 5) : Nat) : Int) / 2 ^ (8 * (a % 8)) % 256)] 5)).drew.heap.size := by simp; omega
        have HK1 := Lib.hid k1'; have HK2 := Lib.hid k2'
        have hk1 : (k + 1) * 1 ≤ 140737488355328 := by omega
        have h01 : 0 < 1 := by omega
        clear k1' k2' kal kal2
        go_region_held3 (fun w' => w'.cell? ⟨g, 2 + a / 8 % 5 * 5 + a / 8 / 5, none⟩ = some (.int .u64 (gt (tp ws) (5 * (a / 8 % 5) + a / 8 / 5) : Nat)) ∧ w'.cell? ⟨g, 27, none⟩ = some (.int .i64 (a : Nat))) (first | go_keep | (exact ⟨HK1.out, HK2.out⟩) | (exact ⟨k1, k2⟩)) (first | ((refine step_append_lies _ rfl (.tmp 80) (.tmp 99) 22 ?ho W0.heap.size 5 bi (.int .u8 0) 1 1 Tryd.underlying22 HBI.out HBZ.out HBS.out HBB.out rfl h01 u5 k (bcells (outs r s k)) ?hs (HO6.out.alloc (.cells #[.int .u8 (((gt (tp ws) (5 * (a / 8 % 5) + a / 8 / 5) : Nat) : Int) / 2 ^ (8 * (a % 8)) % 256)] 5)).drew ⟨w6.heap.size, 0, none⟩ 1 1 [.int .u8 (((gt (tp ws) (5 * (a / 8 % 5) + a / 8 / 5) : Nat) : Int) / 2 ^ (8 * (a % 8)) % 256)] ?hx2 rfl (news_one w6 _) (one_val _) h01 hmx hk1 hbsz _ rfl ?hk; (case ho => rfl); (case hs => rfl); (case hx2 => rfl); intro g' cap w7 hown hgrow hat hltg; have k1 : w7.cell? ⟨g, 2 + a / 8 % 5 * 5 + a / 8 / 5, none⟩ = some (.int .u64 (gt (tp ws) (5 * (a / 8 % 5) + a / 8 / 5) : Nat)) := (hgrow.cell_far ⟨g, 2 + a / 8 % 5 * 5 + a / 8 / 5, none⟩ hgsz (ownNe' HO6.out hlt)).trans HK1.out; have k2 : w7.cell? ⟨g, 27, none⟩ = some (.int .i64 (a : Nat)) := (hgrow.cell_far ⟨g, 27, none⟩ hgsz (ownNe' HO6.out hlt)).trans HK2.out)))
        have hown' : w7.ownsRow W0.heap.size 5 1 (.slice (some ⟨g', 0, none⟩) (k + 1) cap) (k + 1) (bcells (outs r s k ++ [byteAt ws a])) := by rw [bcells_append, show bcells [byteAt ws a] = [.int .u8 (((gt (tp ws) (5 * (a / 8 % 5) + a / 8 / 5) : Nat) : Int) / 2 ^ (8 * (a % 8)) % 256)] from by rw [HBT.out]; rfl]; exact hown
        have HO7 : Hid (w7.ownsRow W0.heap.size 5 1 (.slice (some ⟨g', 0, none⟩) (k + 1) cap) (k + 1) (bcells (outs r s (k + 1)))) := Lib.hid (by rw [outs_succ, show outAt r s k = byteAt ws a from by rw [outAt, HNM2.out]]; exact hown')
        have HS7 : Hid (RSp w7 g r e true (a, ws)) := Lib.hid (((HS6.out.alloc (.cells #[.int .u8 (((gt (tp ws) (5 * (a / 8 % 5) + a / 8 / 5) : Nat) : Int) / 2 ^ (8 * (a % 8)) % 256)] 5)).drew).grown hgrow (ownNe' HO6.out hlt))
        have HG7 : Hid (W0.grownBy w7 (some g)) := Lib.hid (grown_own (only_drew (only_alloc HG6.out (.cells #[.int .u8 (((gt (tp ws) (5 * (a / 8 % 5) + a / 8 / 5) : Nat) : Int) / 2 ^ (8 * (a % 8)) % 256)] 5))) hgrow HO6.out)
        clear hown hown' hgrow hat hltg cr6 fa6 cw6 q1 q2 q3 q4 q9 q10 q11 q12 q14 q15 k1 k2 hgsz hbsz
        have ca7 := HS7.out.at_
        have fa7 := HS7.out.frozen 27
        dsimp only at ca7
        go_wp2
        go_roundw
        case rel =>
          refine ⟨k + 1, by omega, by go_num, Lib.hid (ownsRow_setCell_below (a := ⟨g, 27, none⟩) HO7.out hlt _), Lib.hid ⟨a + 1, ws, HS7.out.setAt (a + 1), by omega, HOK6.out, ?_⟩, Lib.hid (only_set HG7.out (.inl rfl) _)⟩
          show normR r (a + 1, ws) = stepAt r (after r s k)
          rw [HNM2.out]; rfl
        case measure => simp [intOf]; omega
    · obtain rfl : k = n := by omega
      go_wp2
      go_ret
      exact ⟨_, rfl, HO1.out, ⟨a, ws, HS1.out, hle, HOK.out, HNM.out⟩, HG1.out⟩

end Go.Proofs.YtdkhiooiakdecaaDoorR.Kec
