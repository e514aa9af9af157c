/- The document's own: Sum. -/
import Derived.Test.YtfcnhendebjjeaaDoorShaRefB
import Derived.Test.YtfcnhendebjjeaaDoorShaKit
namespace Go.Proofs.YtfcnhendebjjeaaDoor.Sha
set_option linter.all false
open Go.RowKit
attribute [local go_sem ↓] Go.wp_at_zero Go.wp_at_succ

theorem one_rd (w : World) (z : Int) (x : Nat) (hz : z = (x : Int)) (hx : x < 256) {B : Nat} (hB : w.heap.size < B) : Rd (w.alloc (.cells #[.int .u8 z] 5)) B (some ⟨w.heap.size, 0, none⟩) [x] := by
  subst hz
  refine ⟨gt_lt_of_mem (by intro v hv; simp only [List.mem_cons, List.not_mem_nil, or_false] at hv; rw [hv]; exact hx), fun _ => ⟨_, rfl, hB, fun j hj => ?_⟩⟩
  have hj0 : j = 0 := by simp at hj; exact hj
  subst hj0
  show (w.alloc _).cell? ⟨w.heap.size, 0, none⟩ = _
  rw [cell_of_row _ _ 0 _ 5 (0, 0) (heap_alloc_last w _), gt_cons_zero]; rfl
/-- append onto a row of one's own, nil let in -/
theorem wp_append_any {o : Oper} {a : Act} {w : World} {K : Act → World → Prop} {Q : Exit → Act → World → Prop} (s x : Operand)
    (ho : o.op = .call { callee := .builtin .append, args := #[s, x], argTypes := #[22, 22] }) (base n m c B : Nat) (v : Value) (xs ys : List Nat) (ad : Addr)
    (hs : a.eval s = v) (hx : a.eval x = .slice (some ad) m c)
    (hown : w.ownsRow base 5 1 v n (bcells xs)) (hR : Rd w B (some ad) ys) (hm : ys.length = m) (hm0 : 0 < m) (hbd : n + m ≤ 1000000) (hbase : base ≤ w.heap.size)
    (k : ∀ g' cap' w', w'.ownsRow base 5 1 (.slice (some ⟨g', 0, none⟩) (n + m) cap') (n + m) (bcells (xs ++ ys)) → w.grownBy w' v.ownBlock → K (a.put o.dst (.slice (some ⟨g', 0, none⟩) (n + m) cap')) w') :
    Oper.wp Tryd.prog o a w K Q := by
  obtain ⟨i, hi, hz, hsz, hby⟩ := byteInfo
  have hml : n + m ≤ maxLen := by unfold maxLen; omega
  obtain ⟨v', w', hrun, h1, h2, h3, h4⟩ := run_append_own_at (P := Tryd.prog) w base 22 o.type 5 i (.int .u8 0) 1 1 Tryd.underlying22 hi hz hsz hby rfl (by omega) _ n (bcells xs) hown ad m c (bcells ys) (by rw [bcells_len]; omega)
    (news_of_rd hR) (bcells_one ys) hml (by omega) hbase
  rw [← bcells_append] at h1
  have hne : v' ≠ .slice none 0 0 := fun e => by have := (h3.1 e).2; omega
  rcases h1.2 with ⟨e, _⟩ | ⟨g', cap', cur, e, _⟩
  · exact absurd e hne
  · subst e
    unfold Oper.wp execOp
    simp only [ho, resolve, invoke, builtin, Sem.run_bind, Sem.run_pure, Result.andThen_ok, List.map_toArray, List.map_cons, List.map_nil, hs, hx, hrun]
    exact k g' cap' w' h1 h2
theorem below_own {B base n : Nat} {w0 w w' : World} {v : Value} {xs : List Value} (h : Below B w0 w) (hown : w.ownsRow base 5 1 v n xs) (hb : B ≤ base) (hg : w.grownBy w' v.ownBlock) (hB : B ≤ w.heap.size) : Below B w0 w' :=
  ⟨hg.os.trans h.os, hg.tape.trans h.tape, hg.output.trans h.output, Nat.le_trans h.size hg.size, fun i hi => (hg.block i (by omega) (by
    intro e
    rcases hown.2 with ⟨e1, _⟩ | ⟨g, c, cur, e1, hge, _⟩
    · rw [e1] at e; cases e
    · rw [e1] at e
      have : i = g := Option.some.inj e
      omega)).trans (h.block i hi)⟩
theorem row_own {g base n k : Nat} {t : TypeId} {f : Nat → Value} {w w' : World} {v : Value} {xs : List Value} (h : w.rowIs g t k f) (hown : w.ownsRow base 5 1 v n xs) (hb : g < base) (hg : w.grownBy w' v.ownBlock) : w'.rowIs g t k f :=
  h.of_block (hg.block g h.lt (by
    intro e
    rcases hown.2 with ⟨e1, _⟩ | ⟨g2, c, cur, e1, hge, _⟩
    · rw [e1] at e; cases e
    · rw [e1] at e
      have : g = g2 := Option.some.inj e
      omega))
theorem row_block {g base n k : Nat} {t : TypeId} {f : Nat → Value} {w w' : World} {v : Value} {xs : List Value} (h : w.rowIs g t k f) (hown : w.ownsRow base 5 1 v n xs) (hb : g < base) (hg : w.grownBy w' v.ownBlock) : w'.heap[g]? = w.heap[g]? :=
  hg.block g h.lt (by
    intro e
    rcases hown.2 with ⟨e1, _⟩ | ⟨g2, c, cur, e1, hge, _⟩
    · rw [e1] at e; cases e
    · rw [e1] at e
      have : g = g2 := Option.some.inj e
      omega)
theorem four_rd (w : World) (y0 y1 y2 y3 : Nat) (hy : y0 < 256 ∧ y1 < 256 ∧ y2 < 256 ∧ y3 < 256) {B : Nat} (hB : w.heap.size < B) :
    Rd (w.alloc (.cells #[.int .u8 (y0 : Int), .int .u8 (y1 : Int), .int .u8 (y2 : Int), .int .u8 (y3 : Int)] 5)) B (some ⟨w.heap.size, 0, none⟩) [y0, y1, y2, y3] := by
  refine ⟨gt_lt_of_mem (by intro v hv; simp only [List.mem_cons, List.not_mem_nil, or_false] at hv; rcases hv with rfl | rfl | rfl | rfl <;> omega), fun _ => ⟨_, rfl, hB, fun j hj => ?_⟩⟩
  have ha : (⟨w.heap.size, 0, none⟩ : Addr).add j = ⟨w.heap.size, j, none⟩ := by unfold Addr.add; split <;> simp_all
  rw [ha, cell_of_row _ _ j _ 5 (0, 0) (heap_alloc_last w _)]
  have hj4 : j < 4 := hj
  match j, hj4 with
  | 0, _ => rfl
  | 1, _ => rfl
  | 2, _ => rfl
  | 3, _ => rfl
  | n + 4, h => omega
theorem slice_block (g L c a a2 c2 : Nat) (h : a + 64 = a2) (h2 : a2 ≤ L) (hLc : L ≤ c) (hc2 : a + c2 = c) (w : World) :
    (Instr.slice 22 (.slice (some ⟨g, 0, none⟩) L c) (some (.int .i64 (a : Int))) (some (.int .i64 (a2 : Int))) none).run Tryd.prog w = .ok (.slice (some ⟨g, a, none⟩) 64 c2) w := by
  have h1 : Tryd.prog.underlying 22 = some (.slice (Tryd.prog.elem 22)) := by kernel_rfl
  have h3 : Tryd.prog.elem 22 = 5 := by kernel_rfl
  have h4 : (Tryd.prog.info? 5).map (·.size) = some 1 := by kernel_rfl
  cases hq : Tryd.prog.info? 5 with
  | none => simp [hq] at h4
  | some i =>
    have hs1 : i.size = 1 := by simpa [hq] using h4
    rw [run_slice_lh (a := some ⟨g, 0, none⟩) (len := L) (cap := c) (w := w) (t := 22) (ht := h1) .i64 .i64 (a : Int) (a2 : Int) (by omega) (by omega) (by omega), h3]
    have e1 : a2 - a = 64 := by omega
    have e2 : c - a = c2 := by omega
    have e3 : ¬ c = a := by omega
    have e4 : ((⟨g, 0, none⟩ : Addr).add a) = ⟨g, a, none⟩ := by unfold Addr.add; split <;> simp_all
    simp [sizeOf, typeInfo, hq, hs1, sliced, e1, e2, e3, e4]

set_option maxHeartbeats 4000000 in
set_option maxRecDepth 100000 in
theorem rsum_to (A : Option Addr) (bs : List Nat) (n c : Nat) (w : World) (out all : List Nat) (hR : Rd w w.heap.size A bs) (hn : bs.length = n) (hc : A = none → c = 0) (hm : n ≤ 100000)
    (HALL : Hid (Unit → whole bs = all)) (HOUT : Hid (∀ K, all.length = 64 * K → told (blocksTo all K) = out)) (hallb : ∀ j, gt all j < 256) :
    Calls Tryd.prog 26 #[.slice A n c] w (Summed w out) := by
  have HR := Lib.hid hR; have HN := Lib.hid (fun _ : Unit => hn); have HC := Lib.hid hc; have HAB := Lib.hid hallb; clear hR hn hc hallb
  obtain ⟨E, hE, hE9, hE72⟩ : ∃ E, E = endLen n ∧ 9 ≤ E ∧ E ≤ 72 := ⟨_, rfl, endLen_ge n, endLen_le n⟩
  have hE64 : (n + E) % 64 = 0 := by rw [hE]; unfold endLen; omega
  have HE := Lib.hid (fun _ : Unit => hE); clear hE
  have HTS : Hid (∀ j, j < E → (endL n).take (j + 1) = (endL n).take j ++ [endAt n 8 j]) := Lib.hid fun j hj => endL_take_succ n j (by rw [← HE.out ()]; exact hj)
  have HEL : Hid (bs ++ (endL n).take E = all) := Lib.hid (by
    rw [← HALL.out (), List.take_of_length_le (by rw [endL_len, HE.out ()]; exact Nat.le_refl _)]
    unfold whole; rw [HN.out ()])
  have HLL : Hid (all.length = n + E) := Lib.hid (by rw [← HALL.out (), whole_len, HN.out (), HE.out ()])
  have HNIL : Hid ((w.alloc (.cells #[] 5)).ownsRow w.heap.size 5 1 (.slice (some ⟨w.heap.size, 0, none⟩) 0 0) 0 (bcells [])) := Lib.hid (World.ownsRow_made w #[] 0 (Nat.le_refl _) (by unfold maxLen; omega) rfl)
  have HBa := Lib.hid ((Below.refl w.heap.size w).alloc (Nat.le_refl _) (.cells #[] 5))
  have hz0 : (w.alloc (.cells #[] 5)).heap.size = w.heap.size + 1 := by simp
  go_enter Tryd.func26, Tryd.ntmps26
  go_wp2_with (at_builtin; refine wpList_append_rd rfl (.tmp 10) (.tmp 11) rfl w.heap.size w.heap.size 0 0 n c w.heap.size [] bs A rfl rfl HNIL.out (HR.out.below HBa.out) (HN.out ()) HC.out (by omega) (by rw [hz0]; omega) ?_)
  intro g1 cap1 w1 hown1 hgrow1 hat1
  have HO1 := Lib.hid hown1; have HB1 := Lib.hid (below_of_only HBa.out hgrow1 (Nat.le_refl _)); clear hown1 hgrow1 hat1 HNIL HBa hz0
  have HO1a := Lib.hid (HO1.out.alloc (.cells #[.int .u8 128] 5))
  have HB1a := Lib.hid (HB1.out.alloc HB1.out.size (.cells #[.int .u8 128] 5))
  have HRd := Lib.hid (one_rd w1 128 128 rfl (by omega) (B := w1.heap.size + 1) (by omega))
  have hg1 : w.heap.size ≤ g1 := (HO1.out.lt g1 rfl).1
  go_wp2_with (at_builtin; refine wpList_append_rd rfl (.tmp 12) (.tmp 13) rfl w.heap.size g1 n cap1 1 1 (w1.heap.size + 1) bs [128] (some ⟨w1.heap.size, 0, none⟩) rfl rfl HO1a.out HRd.out rfl (fun e => by cases e) (by omega) HB1a.out.size ?_)
  intro g2 cap2 w2 hown2 hgrow2 hat2
  have HB2 := Lib.hid (below_of_only HB1a.out hgrow2 hg1)
  have HO2 : Hid (w2.ownsRow w.heap.size 5 1 (.slice (some ⟨g2, 0, none⟩) (n + 1) cap2) (n + 1) (bcells (bs ++ (endL n).take 1))) := Lib.hid (by
    rw [HTS.out 0 (by omega), endAt_first]; exact hown2)
  clear hown2 hgrow2 hat2 HO1 HO1a HB1 HB1a HRd
  go_wp2_with fail
  go_loopw [3] (fun v W => ∃ (j g L cap : Nat), v = .slice (some ⟨g, 0, none⟩) L cap ∧ 1 ≤ j ∧ j + 8 ≤ E ∧ L ≤ n + j ∧ n + j ≤ L ∧ Hid (W.ownsRow w.heap.size 5 1 (.slice (some ⟨g, 0, none⟩) L cap) L (bcells (bs ++ (endL n).take j))) ∧ Hid (Below w.heap.size w W)) (fun v _ => match v with | .slice _ m _ => n + E - m | _ => 0)
  case atStart => exact ⟨1, g2, n + 1, cap2, rfl, by omega, by omega, by omega, by omega, HO2, HB2⟩
  case round =>
    obtain ⟨j, g, L, cap, rfl, hj1, hj8, hL, hL', HO3, HB3⟩ := hrel
    by_cases hje : j + 8 = E
    · have hd : ((L : Int) % 64 != 56) = false := by rw [bne_eq_false_iff_eq]; omega
      have hje1 : j + 8 ≤ E := by omega
      have hje2 : E ≤ j + 8 := by omega
      clear hje
      have hmul : IntKind.u64.wrap ((n : Int) * 8) = (n : Int) * 8 := by rw [IntKind.wrap_u64]; omega
      go_wp2
      go_loopw [3, 5] (fun v i W => ∃ (m j g L cap : Nat), m ≤ 8 ∧ i = .int .i64 (56 - 8 * (m : Int)) ∧ v = .slice (some ⟨g, 0, none⟩) L cap ∧ j + 8 ≤ E + m ∧ E + m ≤ j + 8 ∧ L ≤ n + j ∧ n + j ≤ L ∧ Hid (W.ownsRow w.heap.size 5 1 (.slice (some ⟨g, 0, none⟩) L cap) L (bcells (bs ++ (endL n).take j))) ∧ Hid (Below w.heap.size w W)) (fun _ i _ => (intOf i + 8).toNat)
      case atStart => exact ⟨0, j, g, L, cap, by omega, rfl, rfl, by omega, by omega, by omega, by omega, HO3, HB3⟩
      case round =>
        obtain ⟨m, j4, g4, L4, cap4, hm8, rfl, rfl, hjm, hjm', hL4, hL4', HO4, HB4⟩ := hrel
        by_cases hm7 : m < 8
        · obtain ⟨sh, hsh, hsh', hsh2⟩ : ∃ sh : Nat, sh + 8 * m ≤ 56 ∧ 56 ≤ sh + 8 * m ∧ sh = 8 * (7 - m) := ⟨56 - 8 * m, by omega, by omega, by omega⟩
          rw [show (56 - 8 * (m : Int)) = (sh : Int) by omega]
          have hen : endAt n 8 j4 = n * 8 / 2 ^ sh % 256 := by rw [hsh2]; exact endAt_count n j4 m (by rw [← HE.out ()]; omega) hm7
          have HEN := Lib.hid (fun _ : Unit => hen)
          have HEB := Lib.hid (endAt_lt n 8 j4)
          have HOa := Lib.hid (HO4.out.alloc (.cells #[.int .u8 ((n : Int) * 8 / 2 ^ sh % 256)] 5))
          have HBa := Lib.hid (HB4.out.alloc HB4.out.size (.cells #[.int .u8 ((n : Int) * 8 / 2 ^ sh % 256)] 5))
          have HRd := Lib.hid (one_rd wr ((n : Int) * 8 / 2 ^ sh % 256) (endAt n 8 j4) (by rw [hen]; simp) HEB.out (B := wr.heap.size + 1) (by omega))
          have hg4 : w.heap.size ≤ g4 := (HO4.out.lt g4 rfl).1
          have y0 : ¬ (sh : Int) < 0 := by omega
          clear hen hsh2
          go_wp2_with (at_builtin; refine wpList_append_rd rfl (.tmp 30) (.tmp 35) rfl w.heap.size g4 L4 cap4 1 1 (wr.heap.size + 1) (bs ++ (endL n).take j4) [endAt n 8 j4] (some ⟨wr.heap.size, 0, none⟩) rfl rfl HOa.out HRd.out rfl (fun e => by cases e) (by omega) HBa.out.size ?_)
          intro g5 cap5 w5 hown5 hgrow5 hat5
          have HB5 := Lib.hid (below_of_only HBa.out hgrow5 hg4)
          have HO5 : Hid (w5.ownsRow w.heap.size 5 1 (.slice (some ⟨g5, 0, none⟩) (L4 + 1) cap5) (L4 + 1) (bcells (bs ++ (endL n).take (j4 + 1)))) := Lib.hid (by
            rw [HTS.out j4 (by omega)]
            simpa using hown5)
          clear hown5 hgrow5 hat5
          go_wp2
          go_roundw
          case rel => exact ⟨m + 1, j4 + 1, g5, L4 + 1, cap5, by omega, by congr 1; omega, rfl, by omega, by omega, by omega, by omega, HO5, HB5⟩
          case measure => simp [intOf]; omega
        · obtain rfl : m = 8 := by omega
          obtain rfl : j4 = E := by omega
          rw [HEL.out] at HO4
          rw [show (56 - 8 * ((8 : Nat) : Int)) = -8 from rfl]
          have hLL := HLL.out
          obtain ⟨K, hK, hK'⟩ : ∃ K : Nat, 64 * K ≤ L4 ∧ L4 ≤ 64 * K := ⟨L4 / 64, by omega, by omega⟩
          have hcap := own_cap HO4.out
          unfold maxLen at hcap
          have hg4 : g4 < wr.heap.size := (HO4.out.lt g4 rfl).2
          have HIf : Hid ((Tryd.prog.info? 49).map (·.size) = some (numsOf .u32 firstT).size) := Lib.hid (by kernel_rfl)
          have HZf := Lib.hid (show (numsOf .u32 (tab 8 fun _ => 0)).size = (numsOf .u32 firstT).size from rfl)
          go_wp2_with (refine wpList_store_row rfl 49 (.tmp 6) (.tmp 37) rfl wr.heap.size (numsOf .u32 firstT) rfl rfl 49 (numsOf .u32 (tab 8 fun _ => 0)) (heap_alloc_last wr _) HIf.out HZf.out (numsOf_one _ _) ?_; rw [World.setRow_alloc_new])
          have HS6 := Lib.hid (rowIs_words (n := 8) (heap_alloc_last wr (.cells (numsOf .u32 firstT) 49)) rfl)
          have HO6 := Lib.hid (HO4.out.alloc (.cells (numsOf .u32 firstT) 49))
          have HB6 := Lib.hid (HB4.out.alloc HB4.out.size (.cells (numsOf .u32 firstT) 49))
          have hgsw : w.heap.size ≤ wr.heap.size := HB4.out.size
          generalize wr.alloc (.cells (numsOf .u32 firstT) 49) = W6 at *
          generalize wr.heap.size = gs at *
          clear HO4 HB4 HO3 HB3 HO2 HB2 HIf HZf
          go_loopw [7] (fun i W => ∃ (k a : Nat), i = .int .i64 (a : Nat) ∧ a ≤ 64 * k ∧ 64 * k ≤ a ∧ k ≤ K ∧ Hid (W.rowIs gs 49 8 (wordRow .u32 (blocksTo all k))) ∧ Hid (W.ownsRow w.heap.size 5 1 (.slice (some ⟨g4, 0, none⟩) L4 cap4) L4 (bcells all)) ∧ Hid (Below w.heap.size w W)) (fun i _ => L4 - (intOf i).toNat)
          case atStart => exact ⟨0, 0, rfl, by omega, by omega, by omega, HS6, HO6, HB6⟩
          case round =>
            obtain ⟨k, a, rfl, hak, hak', hkK, HS7, HO7, HB7⟩ := hrel
            have hst := ok_blocksTo all k
            by_cases hk : k < K
            · have HNX : Hid (Unit → blocksTo all (k + 1) = change (blocksTo all k) (blockAt all k)) := Lib.hid fun _ => rfl
              have HBK := Lib.hid (blockAt_ok HAB.out k (by rw [hLL]; omega))
              have HGB : Hid (∀ j, j < 64 → gt (blockAt all k) j = gt all (a + j)) := Lib.hid fun j hj => by
                unfold blockAt; rw [gt_take' _ _ _ hj, gt_drop, show 64 * k + j = a + j by omega]
              generalize blocksTo all k = st at *
              generalize blockAt all k = blk at *
              obtain ⟨a2, ha2, ha2'⟩ : ∃ a2 : Nat, a + 64 ≤ a2 ∧ a2 ≤ a + 64 := ⟨a + 64, by omega, by omega⟩
              obtain ⟨c2, hc2, hc2'⟩ : ∃ c2 : Nat, a + c2 ≤ cap4 ∧ cap4 ≤ a + c2 := ⟨cap4 - a, by omega, by omega⟩
              have hsl := slice_block g4 L4 cap4 a a2 c2 (by omega) (by omega) hcap.1 (by omega)
              have xa : IntKind.i64.wrap ((a : Int) + 64) = (a2 : Int) := by rw [IntKind.wrap_i64]; omega
              have HOST := Lib.hid hst; clear hst
              have HIs : Hid ((Tryd.prog.info? 49).map (·.size) = some (numsOf .u32 st).size) := Lib.hid (by rw [numsOf_size, HOST.out.1]; kernel_rfl)
              have hch : (change st blk).length = 8 := (ok_change HOST.out).1
              have HCN := Lib.hid (fun _ : Unit => hch)
              obtain ⟨st2, HS2e⟩ : ∃ st2, Hid (Unit → change st blk = st2) := ⟨_, Lib.hid fun _ => rfl⟩
              have HIn : Hid ((Tryd.prog.info? 49).map (·.size) = some (numsOf .u32 st2).size) := Lib.hid (by rw [numsOf_size, ← HS2e.out (), hch]; kernel_rfl)
              have HZn := Lib.hid (show (numsOf .u32 st).size = (numsOf .u32 st2).size by rw [numsOf_size, numsOf_size, ← HS2e.out (), hch, HOST.out.1])
              clear hch
              go_wp2
              refine region_calm ?_
              refine wp_region_any (by kernel_rfl) ?_
              change wpAny _ _ _ _ _ _ _ (World.drew _)
              replace HS7 := Lib.hid HS7.out.drew
              replace HO7 := Lib.hid HO7.out.drew
              replace HB7 := Lib.hid HB7.out.drew
              generalize wr.drew = wd at *
              refine wpAny_take (i := 1) (v := ?v1e) rfl (by kernel_rfl) (by kernel_rfl) (by kernel_rfl) (fun _ _ _ h => h) (Or.inl ⟨by rfl, ?y1e⟩) ?r1e
              case y1e => (intro w; go_simp; try with_reducible rfl)
              simp only [List.getElem_toArray, List.getElem_cons_succ, List.getElem_cons_zero, Act.put, List.setIfInBounds_toArray, List.set_cons_zero, List.set_cons_succ]
              refine wpAny_take (i := 2) (v := ?v2e) rfl (by kernel_rfl) (by kernel_rfl) (by kernel_rfl) (fun _ _ _ h => h) (Or.inl ⟨by rfl, ?y2e⟩) ?r2e
              case y2e => (intro w; go_simp; try with_reducible rfl)
              simp only [List.getElem_toArray, List.getElem_cons_succ, List.getElem_cons_zero, Act.put, List.setIfInBounds_toArray, List.set_cons_zero, List.set_cons_succ]
              refine wpAny_take (i := 3) (v := ?v3e) rfl (by kernel_rfl) (by kernel_rfl) (by kernel_rfl) (fun _ _ _ h => h) (Or.inl ⟨by rfl, ?y3e⟩) ?r3e
              case y3e => (intro w; go_simp; try with_reducible rfl)
              simp only [List.getElem_toArray, List.getElem_cons_succ, List.getElem_cons_zero, Act.put, List.setIfInBounds_toArray, List.set_cons_zero, List.set_cons_succ]
              refine wpAny_take (i := 4) (v := ?v4e) rfl (by kernel_rfl) (by kernel_rfl) (by kernel_rfl) (fun _ _ _ h => h) (Or.inl ⟨by rfl, ?y4e⟩) ?r4e
              case y4e => (intro w; go_simp; try with_reducible rfl)
              simp only [List.getElem_toArray, List.getElem_cons_succ, List.getElem_cons_zero, Act.put, List.setIfInBounds_toArray, List.set_cons_zero, List.set_cons_succ]
              refine wpAny_take (i := 5) (v := ?v5e) rfl (by kernel_rfl) (by kernel_rfl) (by kernel_rfl) (fun _ _ _ h => h) (Or.inl ⟨by rfl, ?y5e⟩) ?r5e
              case y5e => (intro w; go_simp; try with_reducible rfl)
              simp only [List.getElem_toArray, List.getElem_cons_succ, List.getElem_cons_zero, Act.put, List.setIfInBounds_toArray, List.set_cons_zero, List.set_cons_succ]
              refine wpAny_ready (rs := [0]) (by kernel_rfl) (by simp) ?_
              refine AllReady.cons rfl (fun K hK => ?_) AllReady.nil
              simp only [List.getElem_toArray, List.getElem_cons_succ, List.getElem_cons_zero]
              rw [if_pos (by rfl)]
              refine wp_load_row 49 (.tmp 6) rfl gs rfl 49 (numsOf .u32 st) (0, 0) _ (heap_words HS7.out HOST.out.1) Tryd.underlying49 rfl HIs.out ?_
              refine hK _ _ ?_
              clear hK K
              try simp only [List.getElem_toArray, List.getElem_cons_succ, List.getElem_cons_zero, Act.put, List.setIfInBounds_toArray, List.set_cons_zero, List.set_cons_succ]
              refine wpAny_ready (rs := [6]) (by kernel_rfl) (by simp) ?_
              refine AllReady.cons rfl (fun K hK => ?_) AllReady.nil
              simp only [List.getElem_toArray, List.getElem_cons_succ, List.getElem_cons_zero]
              go_simp
              refine (rblock_any st blk ⟨g4, a, none⟩ c2 _ HOST.out HBK.out (HO7.out.lt g4 rfl).2 (fun j hj => by
                have ha : (⟨g4, a, none⟩ : Addr).add j = ⟨g4, a + j, none⟩ := by unfold Addr.add; split <;> simp_all
                rw [ha, HO7.out.cellAt (a + j) (by omega), bcells_at all (a + j) (by rw [hLL]; omega), HGB.out j hj])).mono ?_
              rintro e' wz ⟨rfl, hB⟩
              rw [HS2e.out ()]
              have HS8 := Lib.hid (HS7.out.of_block (hB.block gs HS7.out.lt)); have HO8 := Lib.hid (own_below HO7.out hB (Nat.le_refl _)); have HB8 := Lib.hid (HB7.out.trans (hB.mono HB7.out.size))
              clear hB
              refine hK _ _ ?_
              clear hK K
              try simp only [List.getElem_toArray, List.getElem_cons_succ, List.getElem_cons_zero, Act.put, List.setIfInBounds_toArray, List.set_cons_zero, List.set_cons_succ]
              refine wpAny_ready (rs := [7]) (by kernel_rfl) (by simp) ?_
              refine AllReady.cons rfl (fun K hK => ?_) AllReady.nil
              simp only [List.getElem_toArray, List.getElem_cons_succ, List.getElem_cons_zero]
              rw [if_pos (by rfl)]
              refine wp_store_row 49 (.tmp 6) (.tmp 50) rfl gs (numsOf .u32 st2) rfl rfl 49 (numsOf .u32 st) (heap_words HS8.out HOST.out.1) HIn.out HZn.out (numsOf_one _ _) ?_
              refine hK _ _ ?_
              clear hK K
              try simp only [List.getElem_toArray, List.getElem_cons_succ, List.getElem_cons_zero, Act.put, List.setIfInBounds_toArray, List.set_cons_zero, List.set_cons_succ]
              refine wpAny_done (by kernel_rfl) ?_ _
              dsimp only
              have HS9 := Lib.hid (rowIs_words (n := 8) (setRow_heap wz gs _ (numsOf .u32 st2) 49 (0, 0) (heap_words HS8.out HOST.out.1)) (by rw [← HS2e.out ()]; exact HCN.out ()))
              have HO9 : Hid ((wz.setRow gs (numsOf .u32 st2)).ownsRow w.heap.size 5 1 (.slice (some ⟨g4, 0, none⟩) L4 cap4) L4 (bcells all)) := Lib.hid (HO8.out.kept (only_setRow (World.grownBy.refl wz (some gs)) (.inl rfl) _) (.inr (by intro e; have e' : g4 = gs := Option.some.inj e; omega)))
              have HB9 := Lib.hid (below_setRow HB8.out hgsw (numsOf .u32 st2))
              generalize wz.setRow gs (numsOf .u32 st2) = W9 at *
              go_wp2
              go_roundw
              case rel => exact ⟨k + 1, a2, by go_num, by omega, by omega, by omega, Lib.hid (by rw [HNX.out (), HS2e.out ()]; exact HS9.out), HO9, HB9⟩
              case measure => simp [intOf]; omega
            · obtain rfl : k = K := by omega
              have HTO := Lib.hid (fun _ : Unit => HOUT.out k (by rw [hLL]; omega))
              generalize blocksTo all k = st at *
              have HOST := Lib.hid hst; clear hst
              have hdf : decide ((a : Int) < (L4 : Int)) = false := decide_eq_false (by omega)
              have hdf2 : decide (a < L4) = false := decide_eq_false (by omega)
              go_wp2
              go_loopw [8, 9] (fun v i W => ∃ k : Nat, k ≤ 8 ∧ i = .int .i64 k ∧ Hid (W.ownsRow (gs + 1) 5 1 v (4 * k) (bcells (toldTo st k))) ∧ Hid (W.rowIs gs 49 8 (wordRow .u32 st)) ∧ Hid (Below w.heap.size w W)) (fun _ i _ => 8 - (intOf i).toNat)
              case atStart => exact ⟨0, by omega, rfl, Lib.hid ⟨rfl, .inl ⟨rfl, rfl⟩⟩, HS7, HB7⟩
              case round =>
                obtain ⟨q, hq, rfl, HV, HS10, HB10⟩ := hrel
                by_cases hq8 : q < 8
                · have hx := HOST.out.2 q
                  have HSU : Hid (Unit → toldTo st (q + 1) = toldTo st q ++ wbytes (gt st q)) := Lib.hid fun _ => rfl
                  have hcell : wr.cell? ⟨gs, q, none⟩ = some (.int .u32 (gt st q : Nat)) := HS10.out.cell hq8
                  generalize toldTo st q = xs at *
                  generalize gt st q = x at *
                  obtain ⟨z0, y0, hz0, hy0, hy0w⟩ : ∃ z y : Nat, ((x : Int) / 16777216 = (z : Int)) ∧ y = x / 16777216 % 256 ∧ z % 256 = y := ⟨x / 16777216, _, by omega, rfl, rfl⟩
                  obtain ⟨z1, y1, hz1, hy1, hy1w⟩ : ∃ z y : Nat, ((x : Int) / 65536 = (z : Int)) ∧ y = x / 65536 % 256 ∧ z % 256 = y := ⟨x / 65536, _, by omega, rfl, rfl⟩
                  obtain ⟨z2, y2, hz2, hy2, hy2w⟩ : ∃ z y : Nat, ((x : Int) / 256 = (z : Int)) ∧ y = x / 256 % 256 ∧ z % 256 = y := ⟨x / 256, _, by omega, rfl, rfl⟩
                  obtain ⟨y3, hy3⟩ : ∃ y : Nat, y = x % 256 := ⟨_, rfl⟩
                  have m0 : ((z0 : Int) % 256) = (y0 : Int) := by omega
                  have m1 : ((z1 : Int) % 256) = (y1 : Int) := by omega
                  have m2 : ((z2 : Int) % 256) = (y2 : Int) := by omega
                  have m3 : ((x : Int) % 256) = (y3 : Int) := by omega
                  have p0 : IntKind.u8.wrap (z0 : Int) = (y0 : Int) := by rw [IntKind.wrap_u8]; omega
                  have p1 : IntKind.u8.wrap (z1 : Int) = (y1 : Int) := by rw [IntKind.wrap_u8]; omega
                  have p2 : IntKind.u8.wrap (z2 : Int) = (y2 : Int) := by rw [IntKind.wrap_u8]; omega
                  have p3 : IntKind.u8.wrap (x : Int) = (y3 : Int) := by rw [IntKind.wrap_u8]; omega
                  have HWB : Hid (Unit → wbytes x = [y0, y1, y2, y3]) := Lib.hid fun _ => by rw [hy0, hy1, hy2, hy3]; rfl
                  have HY : Hid (y0 < 256 ∧ y1 < 256 ∧ y2 < 256 ∧ y3 < 256) := Lib.hid (by omega)
                  have yq : (q : Int) < 8 := by omega
                  clear hy0 hy1 hy2 hy3 hy0w hy1w hy2w hx
                  go_wp2
                  refine region_calm ?_
                  refine wp_region_any (by kernel_rfl) ?_
                  change wpAny _ _ _ _ _ _ _ (World.drew _)
                  have S0 : wr.drew.cell? ⟨gs, q, none⟩ = some (.int .u32 (x : Nat)) := hcell
                  replace HV := Lib.hid (show wr.drew.ownsRow (gs + 1) 5 1 u8 (4 * q) (bcells xs) from HV.out.drew)
                  replace HS10 := Lib.hid HS10.out.drew
                  replace HB10 := Lib.hid HB10.out.drew
                  clear hcell
                  generalize wr.drew = wd at *
                  refine wpAny_of_held (S := fun w' => w'.cell? ⟨gs, q, none⟩ = some (.int .u32 (x : Nat))) _ _ _ _ ?_
                  refine wpAnyH_take (i := 0) (v := ?v0f) rfl (by kernel_rfl) (by kernel_rfl) (by kernel_rfl) (fun _ _ _ h => h) (Or.inl ⟨by rfl, ?y0f⟩) S0 ?r0f
                  case y0f => (intro w hSw; clear hSw; go_simp; try with_reducible rfl)
                  simp only [List.getElem_toArray, List.getElem_cons_succ, List.getElem_cons_zero, Act.put, List.setIfInBounds_toArray, List.set_cons_zero, List.set_cons_succ]
                  refine wpAnyH_take (i := 1) (v := ?v1f) rfl (by kernel_rfl) (by kernel_rfl) (by kernel_rfl) (fun _ _ _ h => h) (Or.inl ⟨by rfl, ?y1f⟩) S0 ?r1f
                  case y1f => (intro w hSw; clear hSw; go_simp; try with_reducible rfl)
                  simp only [List.getElem_toArray, List.getElem_cons_succ, List.getElem_cons_zero, Act.put, List.setIfInBounds_toArray, List.set_cons_zero, List.set_cons_succ]
                  refine wpAnyH_take (i := 2) (v := ?v2f) rfl (by kernel_rfl) (by kernel_rfl) (by kernel_rfl) (fun _ _ _ h => h) (Or.inl ⟨by rfl, ?y2f⟩) S0 ?r2f
                  case y2f => (intro w hSw; clear hSw; go_simp; try with_reducible rfl)
                  simp only [List.getElem_toArray, List.getElem_cons_succ, List.getElem_cons_zero, Act.put, List.setIfInBounds_toArray, List.set_cons_zero, List.set_cons_succ]
                  refine wpAnyH_take (i := 3) (v := ?v3f) rfl (by kernel_rfl) (by kernel_rfl) (by kernel_rfl) (fun _ _ _ h => h) (Or.inl ⟨by rfl, ?y3f⟩) S0 ?r3f
                  case y3f => (intro w hSw; (try dsimp only at hSw); go_simp; try with_reducible rfl)
                  simp only [List.getElem_toArray, List.getElem_cons_succ, List.getElem_cons_zero, Act.put, List.setIfInBounds_toArray, List.set_cons_zero, List.set_cons_succ]
                  refine wpAnyH_take (i := 4) (v := ?v4f) rfl (by kernel_rfl) (by kernel_rfl) (by kernel_rfl) (fun _ _ _ h => h) (Or.inl ⟨by rfl, ?y4f⟩) S0 ?r4f
                  case y4f => (intro w hSw; clear hSw; go_simp; try with_reducible rfl)
                  simp only [List.getElem_toArray, List.getElem_cons_succ, List.getElem_cons_zero, Act.put, List.setIfInBounds_toArray, List.set_cons_zero, List.set_cons_succ]
                  refine wpAnyH_take (i := 5) (v := ?v5f) rfl (by kernel_rfl) (by kernel_rfl) (by kernel_rfl) (fun _ _ _ h => h) (Or.inl ⟨by rfl, ?y5f⟩) S0 ?r5f
                  case y5f => (intro w hSw; clear hSw; go_simp; try with_reducible rfl)
                  simp only [List.getElem_toArray, List.getElem_cons_succ, List.getElem_cons_zero, Act.put, List.setIfInBounds_toArray, List.set_cons_zero, List.set_cons_succ]
                  refine wpAnyH_take (i := 6) (v := ?v6f) rfl (by kernel_rfl) (by kernel_rfl) (by kernel_rfl) (fun _ _ _ h => h) (Or.inl ⟨by rfl, ?y6f⟩) S0 ?r6f
                  case y6f => (intro w hSw; clear hSw; go_simp; try with_reducible rfl)
                  simp only [List.getElem_toArray, List.getElem_cons_succ, List.getElem_cons_zero, Act.put, List.setIfInBounds_toArray, List.set_cons_zero, List.set_cons_succ]
                  refine wpAnyH_take (i := 7) (v := ?v7f) rfl (by kernel_rfl) (by kernel_rfl) (by kernel_rfl) (fun _ _ _ h => h) (Or.inl ⟨by rfl, ?y7f⟩) S0 ?r7f
                  case y7f => (intro w hSw; clear hSw; go_simp; try with_reducible rfl)
                  simp only [List.getElem_toArray, List.getElem_cons_succ, List.getElem_cons_zero, Act.put, List.setIfInBounds_toArray, List.set_cons_zero, List.set_cons_succ]
                  refine wpAnyH_take (i := 8) (v := ?v8f) rfl (by kernel_rfl) (by kernel_rfl) (by kernel_rfl) (fun _ _ _ h => h) (Or.inl ⟨by rfl, ?y8f⟩) S0 ?r8f
                  case y8f => (intro w hSw; (try dsimp only at hSw); go_simp; try with_reducible rfl)
                  simp only [List.getElem_toArray, List.getElem_cons_succ, List.getElem_cons_zero, Act.put, List.setIfInBounds_toArray, List.set_cons_zero, List.set_cons_succ]
                  refine wpAnyH_take (i := 9) (v := ?v9f) rfl (by kernel_rfl) (by kernel_rfl) (by kernel_rfl) (fun _ _ _ h => h) (Or.inl ⟨by rfl, ?y9f⟩) S0 ?r9f
                  case y9f => (intro w hSw; clear hSw; go_simp; try with_reducible rfl)
                  simp only [List.getElem_toArray, List.getElem_cons_succ, List.getElem_cons_zero, Act.put, List.setIfInBounds_toArray, List.set_cons_zero, List.set_cons_succ]
                  refine wpAnyH_take (i := 10) (v := ?v10f) rfl (by kernel_rfl) (by kernel_rfl) (by kernel_rfl) (fun _ _ _ h => h) (Or.inl ⟨by rfl, ?y10f⟩) S0 ?r10f
                  case y10f => (intro w hSw; clear hSw; go_simp; try with_reducible rfl)
                  simp only [List.getElem_toArray, List.getElem_cons_succ, List.getElem_cons_zero, Act.put, List.setIfInBounds_toArray, List.set_cons_zero, List.set_cons_succ]
                  refine wpAnyH_take (i := 11) (v := ?v11f) rfl (by kernel_rfl) (by kernel_rfl) (by kernel_rfl) (fun _ _ _ h => h) (Or.inl ⟨by rfl, ?y11f⟩) S0 ?r11f
                  case y11f => (intro w hSw; clear hSw; go_simp; try with_reducible rfl)
                  simp only [List.getElem_toArray, List.getElem_cons_succ, List.getElem_cons_zero, Act.put, List.setIfInBounds_toArray, List.set_cons_zero, List.set_cons_succ]
                  refine wpAnyH_take (i := 12) (v := ?v12f) rfl (by kernel_rfl) (by kernel_rfl) (by kernel_rfl) (fun _ _ _ h => h) (Or.inl ⟨by rfl, ?y12f⟩) S0 ?r12f
                  case y12f => (intro w hSw; clear hSw; go_simp; try with_reducible rfl)
                  simp only [List.getElem_toArray, List.getElem_cons_succ, List.getElem_cons_zero, Act.put, List.setIfInBounds_toArray, List.set_cons_zero, List.set_cons_succ]
                  refine wpAnyH_take (i := 13) (v := ?v13f) rfl (by kernel_rfl) (by kernel_rfl) (by kernel_rfl) (fun _ _ _ h => h) (Or.inl ⟨by rfl, ?y13f⟩) S0 ?r13f
                  case y13f => (intro w hSw; (try dsimp only at hSw); go_simp; try with_reducible rfl)
                  simp only [List.getElem_toArray, List.getElem_cons_succ, List.getElem_cons_zero, Act.put, List.setIfInBounds_toArray, List.set_cons_zero, List.set_cons_succ]
                  refine wpAnyH_take (i := 14) (v := ?v14f) rfl (by kernel_rfl) (by kernel_rfl) (by kernel_rfl) (fun _ _ _ h => h) (Or.inl ⟨by rfl, ?y14f⟩) S0 ?r14f
                  case y14f => (intro w hSw; clear hSw; go_simp; try with_reducible rfl)
                  simp only [List.getElem_toArray, List.getElem_cons_succ, List.getElem_cons_zero, Act.put, List.setIfInBounds_toArray, List.set_cons_zero, List.set_cons_succ]
                  refine wpAnyH_take (i := 15) (v := ?v15f) rfl (by kernel_rfl) (by kernel_rfl) (by kernel_rfl) (fun _ _ _ h => h) (Or.inl ⟨by rfl, ?y15f⟩) S0 ?r15f
                  case y15f => (intro w hSw; clear hSw; go_simp; try with_reducible rfl)
                  simp only [List.getElem_toArray, List.getElem_cons_succ, List.getElem_cons_zero, Act.put, List.setIfInBounds_toArray, List.set_cons_zero, List.set_cons_succ]
                  refine wpAnyH_take (i := 16) (v := ?v16f) rfl (by kernel_rfl) (by kernel_rfl) (by kernel_rfl) (fun _ _ _ h => h) (Or.inl ⟨by rfl, ?y16f⟩) S0 ?r16f
                  case y16f => (intro w hSw; clear hSw; go_simp; try with_reducible rfl)
                  simp only [List.getElem_toArray, List.getElem_cons_succ, List.getElem_cons_zero, Act.put, List.setIfInBounds_toArray, List.set_cons_zero, List.set_cons_succ]
                  refine wpAnyH_take (i := 17) (v := ?v17f) rfl (by kernel_rfl) (by kernel_rfl) (by kernel_rfl) (fun _ _ _ h => h) (Or.inl ⟨by rfl, ?y17f⟩) S0 ?r17f
                  case y17f => (intro w hSw; clear hSw; go_simp; try with_reducible rfl)
                  simp only [List.getElem_toArray, List.getElem_cons_succ, List.getElem_cons_zero, Act.put, List.setIfInBounds_toArray, List.set_cons_zero, List.set_cons_succ]
                  refine wpAnyH_take (i := 18) (v := ?v18f) rfl (by kernel_rfl) (by kernel_rfl) (by kernel_rfl) (fun _ _ _ h => h) (Or.inl ⟨by rfl, ?y18f⟩) S0 ?r18f
                  case y18f => (intro w hSw; (try dsimp only at hSw); go_simp; try with_reducible rfl)
                  simp only [List.getElem_toArray, List.getElem_cons_succ, List.getElem_cons_zero, Act.put, List.setIfInBounds_toArray, List.set_cons_zero, List.set_cons_succ]
                  refine wpAnyH_take (i := 19) (v := ?v19f) rfl (by kernel_rfl) (by kernel_rfl) (by kernel_rfl) (fun _ _ _ h => h) (Or.inl ⟨by rfl, ?y19f⟩) S0 ?r19f
                  case y19f => (intro w hSw; clear hSw; go_simp; try with_reducible rfl)
                  simp only [List.getElem_toArray, List.getElem_cons_succ, List.getElem_cons_zero, Act.put, List.setIfInBounds_toArray, List.set_cons_zero, List.set_cons_succ]
                  refine wpAnyH_ready (rs := [20]) (by kernel_rfl) (by simp) ?_
                  refine AllReadyH.cons rfl (fun K hK => ?_) AllReadyH.nil
                  simp only [List.getElem_toArray, List.getElem_cons_succ, List.getElem_cons_zero]
                  go_simp
                  have S1 : (wd.alloc (.cells #[.int .u8 (y0 : Int), .int .u8 (y1 : Int), .int .u8 (y2 : Int), .int .u8 (y3 : Int)] 5)).cell? ⟨gs, q, none⟩ = some (.int .u32 (x : Nat)) := by rw [((Below.refl wd.heap.size wd).alloc (Nat.le_refl _) (.cells #[.int .u8 (y0 : Int), .int .u8 (y1 : Int), .int .u8 (y2 : Int), .int .u8 (y3 : Int)] 5)).cell (show gs < wd.heap.size from HS10.out.lt)]; exact S0
                  refine hK.out _ _ S1 (fun _ => ?_)
                  clear hK K
                  try simp only [List.getElem_toArray, List.getElem_cons_succ, List.getElem_cons_zero, Act.put, List.setIfInBounds_toArray, List.set_cons_zero, List.set_cons_succ]
                  have HOa := Lib.hid (HV.out.alloc (.cells #[.int .u8 (y0 : Int), .int .u8 (y1 : Int), .int .u8 (y2 : Int), .int .u8 (y3 : Int)] 5))
                  have HSa := Lib.hid (HS10.out.alloc (.cells #[.int .u8 (y0 : Int), .int .u8 (y1 : Int), .int .u8 (y2 : Int), .int .u8 (y3 : Int)] 5))
                  have HBa := Lib.hid (HB10.out.alloc HB10.out.size (.cells #[.int .u8 (y0 : Int), .int .u8 (y1 : Int), .int .u8 (y2 : Int), .int .u8 (y3 : Int)] 5))
                  have HRa := Lib.hid (four_rd wd y0 y1 y2 y3 HY.out (B := wd.heap.size + 1) (by omega))
                  have hgz : gs + 1 ≤ (wd.alloc (.cells #[.int .u8 (y0 : Int), .int .u8 (y1 : Int), .int .u8 (y2 : Int), .int .u8 (y3 : Int)] 5)).heap.size := by have := HSa.out.lt; omega
                  have hwz : w.heap.size ≤ (wd.alloc (.cells #[.int .u8 (y0 : Int), .int .u8 (y1 : Int), .int .u8 (y2 : Int), .int .u8 (y3 : Int)] 5)).heap.size := HBa.out.size
                  refine wpAnyH_ready (rs := [21]) (by kernel_rfl) (by simp) ?_
                  refine AllReadyH.cons rfl (fun K hK => ?_) AllReadyH.nil
                  simp only [List.getElem_toArray, List.getElem_cons_succ, List.getElem_cons_zero]
                  rw [if_pos (by rfl)]
                  refine wp_append_any (.tmp 55) (.tmp 75) rfl (gs + 1) (4 * q) 4 4 (wd.heap.size + 1) u8 xs [y0, y1, y2, y3] ⟨wd.heap.size, 0, none⟩ rfl rfl HOa.out HRa.out rfl (by omega) (by omega) hgz ?_
                  intro g11 cap11 w11 hown11 hgrow11
                  have HB11 := Lib.hid (below_own HBa.out HOa.out (by omega) hgrow11 hwz)
                  have HS11 := Lib.hid (row_own HSa.out HOa.out (by omega) hgrow11)
                  have HV11 := Lib.hid hown11
                  have S2 : w11.cell? ⟨gs, q, none⟩ = some (.int .u32 (x : Nat)) := by rw [World.cell?_of_block (w := wd.alloc (.cells #[.int .u8 (y0 : Int), .int .u8 (y1 : Int), .int .u8 (y2 : Int), .int .u8 (y3 : Int)] 5)) (w' := w11) (show w11.heap[gs]? = (wd.alloc (.cells #[.int .u8 (y0 : Int), .int .u8 (y1 : Int), .int .u8 (y2 : Int), .int .u8 (y3 : Int)] 5)).heap[gs]? from row_block HSa.out HOa.out (by omega) hgrow11)]; exact S1
                  clear hown11 hgrow11
                  refine hK.out _ _ S2 (fun _ => ?_)
                  clear hK K
                  try simp only [List.getElem_toArray, List.getElem_cons_succ, List.getElem_cons_zero, Act.put, List.setIfInBounds_toArray, List.set_cons_zero, List.set_cons_succ]
                  refine wpAnyH_take (i := 22) (v := ?v22f) rfl (by kernel_rfl) (by kernel_rfl) (by kernel_rfl) (fun _ _ _ h => h) (Or.inl ⟨by rfl, ?y22f⟩) S2 ?r22f
                  case y22f => (intro w hSw; clear hSw; go_simp; try with_reducible rfl)
                  simp only [List.getElem_toArray, List.getElem_cons_succ, List.getElem_cons_zero, Act.put, List.setIfInBounds_toArray, List.set_cons_zero, List.set_cons_succ]
                  refine wpAnyH_done (by kernel_rfl) ?_ _
                  dsimp only
                  go_wp2
                  go_roundw
                  case rel => exact ⟨q + 1, by omega, by go_num, Lib.hid (by rw [HSU.out (), HWB.out ()]; exact HV11.out), HS11, HB11⟩
                  case measure => simp [intOf]; omega
                · obtain rfl : q = 8 := by omega
                  have hf : toldTo st 8 = out := HTO.out ()
                  rw [hf] at HV
                  have HV' : Hid (wr.ownsRow (gs + 1) 5 1 u8 32 (bcells out)) := HV
                  rcases HV'.out.2 with ⟨_, h0⟩ | ⟨h, cp, cur, hv, _⟩
                  · omega
                  · subst hv
                    go_wp2
                    go_ret
                    exact ⟨h, cp, rfl, own_lower HV'.out (by omega), HB10.out⟩
    · have hd : ((L : Int) % 64 != 56) = true := by rw [bne_iff_ne]; omega
      have HOa := Lib.hid (HO3.out.alloc (.cells #[.int .u8 0] 5))
      have HBa := Lib.hid (HB3.out.alloc HB3.out.size (.cells #[.int .u8 0] 5))
      have HRd := Lib.hid (one_rd wr 0 0 rfl (by omega) (B := wr.heap.size + 1) (by omega))
      have hg : w.heap.size ≤ g := (HO3.out.lt g rfl).1
      have hj9 : j + 9 ≤ E := by omega
      clear hje
      go_wp2_with (at_builtin; refine wpList_append_rd rfl (.tmp 19) (.tmp 20) rfl w.heap.size g L cap 1 1 (wr.heap.size + 1) (bs ++ (endL n).take j) [0] (some ⟨wr.heap.size, 0, none⟩) rfl rfl HOa.out HRd.out rfl (fun e => by cases e) (by omega) HBa.out.size ?_)
      intro g5 cap5 w5 hown5 hgrow5 hat5
      have HB5 := Lib.hid (below_of_only HBa.out hgrow5 hg)
      have HO5 : Hid (w5.ownsRow w.heap.size 5 1 (.slice (some ⟨g5, 0, none⟩) (L + 1) cap5) (L + 1) (bcells (bs ++ (endL n).take (j + 1)))) := Lib.hid (by
        rw [HTS.out j (by omega), endAt_nought n j (by omega) (by rw [← HE.out ()]; omega)]
        simpa using hown5)
      clear hown5 hgrow5 hat5
      go_wp2
      go_roundw
      case rel => exact ⟨j + 1, g5, L + 1, cap5, rfl, by omega, by omega, by omega, by omega, HO5, HB5⟩
      case measure => show n + E - (L + 1) < n + E - L; omega

theorem rsum_any (A : Option Addr) (bs : List Nat) (n c : Nat) (w : World) (hR : Rd w w.heap.size A bs) (hn : bs.length = n) (hc : A = none → c = 0) (hm : n ≤ 100000) :
    Calls Tryd.prog 26 #[.slice A n c] w (Summed w (sum bs)) :=
  rsum_to A bs n c w _ _ hR hn hc hm (Lib.hid fun _ => rfl) (Lib.hid fun K hK => sum_blocks bs K hK) (by unfold whole; exact gt_append_lt hR.1 (endL_lt _))

end Go.Proofs.YtfcnhendebjjeaaDoor.Sha
