/- Walks: the iterator of pieces. -/
import Derived.Test.YtfcnhendebjjeaaDoorHkWalkD
import Derived.Test.YtfcnhendebjjeaaDoorIterLaw
namespace Go.Proofs.YtfcnhendebjjeaaDoor.Sha
set_option linter.all false
open Go.RowKit Iter
attribute [local go_sem] Oper.semAt_some

/-- a slice of bytes in a block of its own, at or beyond B; nil let in -/
def Fresh (B : Nat) (A : Option Addr) (bs : List Nat) (w : World) : Prop :=
  (∀ j, gt bs j < 256) ∧ (0 < bs.length → ∃ g : Nat, A = some ⟨g, 0, none⟩ ∧ B ≤ g ∧ g < w.heap.size ∧ ∀ j, j < bs.length → w.cell? ⟨g, j, none⟩ = some (.int .u8 (gt bs j : Nat)))
theorem Fresh.kept {B : Nat} {A : Option Addr} {bs : List Nat} {w w' : World} {X : Nat → Prop} (h : Fresh B A bs w) (hk : Kept X w w') (hX : ∀ k, X k → k < B) : Fresh B A bs w' := by
  refine ⟨h.1, fun hn => ?_⟩
  obtain ⟨g, h1, h2, h3, h4⟩ := h.2 hn
  refine ⟨g, h1, h2, Nat.lt_of_lt_of_le h3 hk.size, fun j hj => ?_⟩
  rw [World.cell?_of_block (w := w) (w' := w') (hk.block g h3 fun e => by have := hX g e; omega)]
  exact h4 j hj
theorem Fresh.rd {B : Nat} {A : Option Addr} {bs : List Nat} {w : World} (h : Fresh B A bs w) : Rd w w.heap.size A bs := by
  refine ⟨h.1, fun hn => ?_⟩
  obtain ⟨g, h1, h2, h3, h4⟩ := h.2 hn
  refine ⟨_, h1, h3, fun j hj => ?_⟩
  have ha : (⟨g, 0, none⟩ : Addr).add j = ⟨g, j, none⟩ := by unfold Addr.add; split <;> simp_all
  rw [ha]; exact h4 j hj
theorem fresh_of_own {w : World} {base B g n cap : Nat} {xs : List Nat} (hown : w.ownsRow base 5 1 (.slice (some ⟨g, 0, none⟩) n cap) n (bcells xs)) (hx : ∀ j, gt xs j < 256) (hB : B ≤ base) : Fresh B (some ⟨g, 0, none⟩) xs w := by
  have hl : xs.length = n := by have := hown.1; rw [bcells_len] at this; omega
  have hlt := hown.lt g rfl
  exact ⟨hx, fun _ => ⟨g, rfl, by omega, hlt.2, fun j hj => by rw [hown.cellAt j (by omega), bcells_at xs j hj]⟩⟩
theorem Fresh.nil (B : Nat) (A : Option Addr) (w : World) : Fresh B A [] w := ⟨fun _ => by simp [gt], fun h => absurd h (by simp)⟩

theorem parts_list (w : World) (ps : List Pt) (h : ∀ p ∈ ps, p.Lies w) : Parts (w.alloc (.cells (ps.map fun p => Value.slice p.A p.n p.c).toArray 22)) w.heap.size ps := by
  intro j p hp
  refine ⟨?_, (h p (List.mem_of_getElem? hp)).below ((Below.refl _ _).alloc (Nat.le_refl _) _)⟩
  rw [cell_of_row _ _ j _ 22 (0, 0) (heap_alloc_last w _)]
  simp [hp]
theorem byte_rd (w : World) (z : Int) (x : Nat) (hz : z = (x : Int)) (hx : x < 256) {B : Nat} (hB : w.heap.size < B) : Rd (w.alloc (.cells #[.int .u8 z] 5)) B (some ⟨w.heap.size, 0, none⟩) [x] := by
  subst hz
  refine ⟨gt_lt_of_mem (by intro v hv; simp only [List.mem_cons, List.not_mem_nil, or_false] at hv; rw [hv]; exact hx), fun _ => ⟨_, rfl, hB, fun j hj => ?_⟩⟩
  have hj0 : j = 0 := by simp at hj; exact hj
  subst hj0
  show (w.alloc _).cell? ⟨w.heap.size, 0, none⟩ = _
  rw [cell_of_row _ _ 0 _ 5 (0, 0) (heap_alloc_last w _), gt_cons_zero]; rfl
theorem Rd.kept {w w' : World} {B : Nat} {A : Option Addr} {bs : List Nat} {X : Nat → Prop} (h : Rd w B A bs) (hk : Kept X w w') (hX : ∀ k, X k → B ≤ k) (hB : B ≤ w.heap.size) : Rd w' B A bs :=
  h.keep fun p hp => World.cell?_of_block (hk.block p.block (by omega) fun e => by have := hX _ e; omega)
theorem Tables.kept {w w' : World} {X : Nat → Prop} (h : Tables w) (hk : Kept X w w') (hX : ∀ k, X k → 2 ≤ k) : Tables w' :=
  h.keep fun g hlt => hk.block g (by have := h.lt; omega) fun e => by have := hX _ e; omega

/-- what a piece is, where it is handed over -/
def pieceKn (k info : List Nat) (B : Nat) (pre : List (Nat × Nat)) (x : Nat × Nat) (w : World) : Prop :=
  pre.length < 255 ∧ 32 ≤ x.2 ∧ x.2 ≤ 9223372036854775807 ∧ Fresh B (some ⟨x.1, 0, none⟩) (piece k info (pre.length + 1)) w
def pieceEncs (x : Nat × Nat) : Array Value := #[.slice (some ⟨x.1, 0, none⟩) 32 x.2]

set_option maxHeartbeats 1000000 in
set_option maxRecDepth 100000 in
theorem pieces_hands (n0 bk bi : Nat) (A A2 : Option Addr) (key info : List Nat) (n c n2 c2 : Nat) (X : Nat → Prop) (w : World) (hT : Tables w) (h2 : 2 ≤ n0) (hn0 : n0 ≤ w.heap.size)
    (hX : ∀ k, X k → n0 ≤ k ∧ k ≠ bk ∧ k ≠ bi ∧ k < w.heap.size + 2) (hck : w.cell? ⟨bk, 0, none⟩ = some (.slice A n c)) (hci : w.cell? ⟨bi, 0, none⟩ = some (.slice A2 n2 c2))
    (hR : Rd w n0 A key) (hn : key.length = n) (hnc : n ≤ c) (hc : c ≤ 9223372036854775807) (hm : n ≤ 100000) (hR2 : Rd w n0 A2 info) (hn2 : info.length = n2) (hnc2 : n2 ≤ c2) (hc2 : c2 ≤ 9223372036854775807) (hm2 : n2 ≤ 100000) :
    Hands Tryd.prog 30 #[.pointer (some ⟨bk, 0, none⟩), .pointer (some ⟨bi, 0, none⟩)] pieceEncs (pieceKn (blockK key) info (w.heap.size + 2)) X (fun xs => xs.length = 255) (fun _ => True) w := by
  intro l J Jx W hW hsz hJ hY h0
  have HT := Lib.hid (hT.below hW (by omega)); have HR := Lib.hid ((hR.below (hW.mono hn0)).more (by have := hW.size; omega : n0 ≤ W.heap.size)); have HR2 := Lib.hid (hR2.below (hW.mono hn0))
  have HN := Lib.hid (fun _ : Unit => hn); have HN2 := Lib.hid (fun _ : Unit => hn2); have HJ := Lib.hid hJ; have HY := Lib.hid hY; have H0 := Lib.hid h0; have HX := Lib.hid hX
  have c0 := (hW.cell (p := ⟨bk, 0, none⟩) (block_lt_of_cell hck)).trans hck
  have HCI := Lib.hid ((hW.cell (p := ⟨bi, 0, none⟩) (block_lt_of_cell hci)).trans hci)
  have hbi := block_lt_of_cell HCI.out
  have hz := run_zero_block
  clear hT hR hR2 hn hn2 hJ hY h0 hX hck hci hW
  generalize w.heap.size = N0 at *
  refine callsIn_of_wp Tryd.func30 rfl trivial ?_ rfl
  simp only [Tryd.ntmps30, List.size_toArray, List.length_cons, List.length_nil, Nat.reduceAdd, Nat.reduceSub, Array.replicate_succ, Array.replicate_zero, List.push_toArray, List.append_toArray, List.nil_append, List.cons_append]
  have HK := Lib.hid (ok_blockK HR.out.1)
  have HSZ := Lib.hid (show zb.size = (bcells (blockK key)).toArray.size by rw [zb_size, List.size_toArray, bcells_len]; exact HK.out.1.symm)
  have HI := Lib.hid (block_size (blockK key) HK.out.1)
  have HONE := Lib.hid (bcells_one_all (blockK key))
  gi_wp2_with fail
  refine ⟨trivial, rfl, ?_⟩
  refine (callsIn_wide.2 (blockOf_any A key n c _ HT.out (HR.out.more (by omega)) (HN.out ()) hnc hc (by omega))).mono ?_
  rintro e' w1 ⟨rfl, hB1⟩
  have HB1 := Lib.hid hB1; clear hB1
  generalize blockK key = K at *
  have HG1 := Lib.hid (heap_alloc_last w1 (.cells zb 35))
  have HB2 := Lib.hid (HB1.out.alloc HB1.out.size (.cells zb 35))
  have hq : N0 + 2 ≤ w1.heap.size := by have := HB1.out.size; omega
  gi_wp2_with (refine wpListIn_store_whole (plain_wide _) rfl 35 (.tmp 4) (.tmp 8) rfl w1.heap.size (bcells K).toArray rfl rfl 35 zb HG1.out HI.out HSZ.out HONE.out ?_)
  rw [World.setRow_alloc_new]
  have HQ2 := Lib.hid (heap_alloc_last w1 (.cells (bcells K).toArray 35))
  have HB3 := Lib.hid (HB1.out.alloc HB1.out.size (.cells (bcells K).toArray 35))
  have HK3 := Lib.hid (Kept.of_below (X := X) HB3.out)
  have HJ3 := Lib.hid (HJ.out _ _ _ H0.out HB3.out)
  generalize w1.alloc (.cells (bcells K).toArray 35) = W3 at *
  generalize w1.heap.size = q at *
  clear HG1 HB1 HB2 HB3 H0 HSZ HONE
  gi_loopw [5, 6] (fun u i wr => ∃ (k m c' : Nat) (A' : Option Addr) (pre : List (Nat × Nat)), k ≤ 255 ∧ i = .int .i64 ((k : Int) + 1) ∧ u = .slice A' m c' ∧ m ≤ 32 ∧ m ≤ c' ∧ c' ≤ 9223372036854775807 ∧ pre.length = k ∧ Hid (Unit → (piece K info k).length = m) ∧ Hid (Fresh (N0 + 2) A' (piece K info k) wr) ∧ Hid (J pre wr) ∧ Hid (Kept X W wr) ∧ Hid (wr.heap[q]? = some (.cells (bcells K).toArray 35 (0, 0)))) (fun _ i _ => 256 - (intOf i).toNat)
  case atStart => exact ⟨0, 0, 0, none, [], by omega, rfl, rfl, by omega, by omega, by omega, rfl, Lib.hid fun _ => rfl, Lib.hid (Fresh.nil _ _ _), HJ3, HK3, HQ2⟩
  case round =>
    obtain ⟨k, m, c', A', pre, hk, rfl, rfl, hm32, hmc, hcm, hpl, HPL, HF, HJ4, HK4, HQ4⟩ := hrel
    by_cases hk255 : k < 255
    · have yk : (k : Int) + 1 ≤ 255 := by omega
      have c1 := (World.cell?_of_block (w := W) (w' := wr) (a := ⟨bi, 0, none⟩) (HK4.out.block bi hbi fun e => (HX.out _ e).2.2.1 rfl)).trans HCI.out
      have xk : IntKind.u8.wrap ((k : Int) + 1) = ((k + 1 : Nat) : Int) := by rw [IntKind.wrap_u8]; omega
      gi_wp2_with (refine wpListIn_load_whole (plain_wide _) rfl 35 (.tmp 4) rfl q rfl 35 (bcells K).toArray (0, 0) _ HQ4.out Tryd.underlying35 rfl HI.out ?_)
      refine ⟨trivial, rfl, ?_⟩
      have hNr : N0 + 2 ≤ wr.heap.size := by have := HK4.out.size; omega
      have hT4 : Tables wr := HT.out.kept HK4.out fun k e => by have := (HX.out k e).1; omega
      have HBa := Lib.hid ((Below.refl wr.heap.size wr).alloc (Nat.le_refl _) (.cells #[.int .u8 ((k : Int) + 1)] 5))
      have L1 : Pt.Lies (wr.alloc (.cells #[.int .u8 ((k : Int) + 1)] 5)) ⟨A', m, c', piece K info k⟩ := Pt.Lies.below ⟨HF.out.rd, HPL.out (), hmc, hcm⟩ HBa.out
      have L2 : Pt.Lies (wr.alloc (.cells #[.int .u8 ((k : Int) + 1)] 5)) ⟨A2, n2, c2, info⟩ := Pt.Lies.below (w := wr) ⟨(HR2.out.kept HK4.out (fun k e => (HX.out k e).1) (by omega)).more (by omega), HN2.out (), hnc2, hc2⟩ HBa.out
      have L3 : Pt.Lies (wr.alloc (.cells #[.int .u8 ((k : Int) + 1)] 5)) ⟨some ⟨wr.heap.size, 0, none⟩, 1, 1, [k + 1]⟩ := ⟨byte_rd wr _ (k + 1) (by omega) (by omega) (by simp), rfl, Nat.le_refl _, by show 1 ≤ _; omega⟩
      have hP := parts_list (wr.alloc (.cells #[.int .u8 ((k : Int) + 1)] 5)) [⟨A', m, c', piece K info k⟩, ⟨A2, n2, c2, info⟩, ⟨some ⟨wr.heap.size, 0, none⟩, 1, 1, [k + 1]⟩] (by
        intro p hp
        simp only [List.mem_cons, List.not_mem_nil, or_false] at hp
        rcases hp with rfl | rfl | rfl
        · exact L1
        · exact L2
        · exact L3)
      have hsz1 : (wr.alloc (.cells #[.int .u8 ((k : Int) + 1)] 5)).heap.size = wr.heap.size + 1 := by simp
      rw [hsz1] at hP
      have HP := Lib.hid hP
      have HBb := Lib.hid (HBa.out.alloc HBa.out.size (.cells #[.slice A' m c', .slice A2 n2 c2, .slice (some ⟨wr.heap.size, 0, none⟩) 1 1] 22))
      have HTb := Lib.hid (hT4.below HBb.out (by omega))
      clear L1 L2 L3 hP hsz1 HBa hT4
      refine (callsIn_wide.2 (tag_any K [⟨A', m, c', piece K info k⟩, ⟨A2, n2, c2, info⟩, ⟨some ⟨wr.heap.size, 0, none⟩, 1, 1, [k + 1]⟩] (wr.heap.size + 1) 3 3 _ HTb.out HK.out HP.out rfl (by omega) (by show m + (n2 + (1 + 0)) ≤ _; omega))).mono ?_
      rintro e' W5 ⟨g5, c5, rfl, hown5, hB5⟩
      have hcap5 := own_cap hown5
      unfold maxLen at hcap5
      have HP5 : Hid (Unit → tag K (joined [⟨A', m, c', piece K info k⟩, ⟨A2, n2, c2, info⟩, ⟨some ⟨wr.heap.size, 0, none⟩, 1, 1, [k + 1]⟩]) = piece K info (k + 1)) := Lib.hid fun _ => by
        show tag K (piece K info k ++ (info ++ ([k + 1] ++ []))) = tag K (piece K info k ++ (info ++ [k + 1]))
        rw [List.append_nil]
      rw [HP5.out ()] at hown5
      have HB5 := Lib.hid (HBb.out.trans (hB5.mono HBb.out.size))
      have HF5 : Hid (Fresh (N0 + 2) (some ⟨g5, 0, none⟩) (piece K info (k + 1)) W5) := Lib.hid (fresh_of_own hown5 (piece_lt K info (k + 1)) (by have := HBb.out.size; omega))
      have HJ5 := Lib.hid (HJ.out _ _ _ HJ4.out HB5.out)
      have HK5 := Lib.hid (HK4.out.trans (Kept.of_below HB5.out))
      have hqr : q < wr.heap.size := (Array.getElem?_eq_some_iff.1 HQ4.out).1
      have HQ5 := Lib.hid ((HB5.out.block q hqr).trans HQ4.out)
      clear hown5 hB5 HTb HP HP5 HBb
      obtain ⟨fn, tmps, assign, body, hy, hR⟩ := HY.out pre (g5, c5) W5 HJ5.out ⟨by omega, hcap5.1, hcap5.2, by rw [hpl]; exact HF5.out⟩
      simp only [pieceEncs] at hy
      have HR9 := Lib.hid hR
      clear hR
      gi_wp2
      refine ⟨rfl, HR9.out.mono ?_⟩
      rintro e' W6 (⟨rfl, hJ6, hK6⟩ | ⟨rfl, hJx⟩)
      · have HJ6 := Lib.hid hJ6; have HK6 := Lib.hid (HK5.out.trans hK6); have HF6 := Lib.hid (HF5.out.kept hK6 fun k e => (HX.out k e).2.2.2)
        have HQ6 := Lib.hid ((hK6.block q (Array.getElem?_eq_some_iff.1 HQ5.out).1 fun e => by have := (HX.out q e).2.2.2; omega).trans HQ5.out)
        clear hJ6 hK6
        gi_wp2
        go_roundw
        case rel => exact ⟨k + 1, 32, c5, some ⟨g5, 0, none⟩, pre ++ [(g5, c5)], by omega, by go_num, rfl, by omega, hcap5.1, hcap5.2, by rw [List.length_append, hpl]; rfl, Lib.hid fun _ => piece_len K info k, HF6, HJ6, HK6, HQ6⟩
        case measure => simp [intOf]; omega
      · have HJx := Lib.hid hJx
        clear hJx
        gi_wp2
        refine bodyPost_ret (results_none rfl _ _ _) rfl ?_
        exact ⟨⟨_, rfl⟩, .inr ⟨_, trivial, HJx.out⟩⟩
    · obtain rfl : k = 255 := by omega
      gi_wp2
      go_end0
      exact ⟨⟨_, rfl⟩, .inl ⟨pre, hpl, HJ4.out⟩⟩
end Go.Proofs.YtfcnhendebjjeaaDoor.Sha
