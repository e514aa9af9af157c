/- Walks: the iterator of candidates. -/
import Derived.Test.YtdkhiooiakdecaaDoorRKpWalkJ
import Derived.Test.YtdkhiooiakdecaaDoorRKecBoth
namespace Go.Proofs.YtdkhiooiakdecaaDoorR.Kp
set_option linter.all false
open Go.RowKit Iter Sm
attribute [local go_sem] Oper.semAt_some

def spS (bs : List Nat) : Nat × List Nat := Kec.turned 168 31 (Kec.takeAll 168 Kec.start bs)
def gsJ (bs : List Nat) (j : Nat) : Bool × (Nat × List Nat) := if j = 0 then (false, Kec.takeAll 168 Kec.start bs) else (true, Kec.after 168 (spS bs) (168 * j))
theorem sq_gsJ (bs : List Nat) (j : Nat) : Kec.sq 168 31 (gsJ bs j) = Kec.after 168 (spS bs) (168 * j) := by
  unfold gsJ Kec.sq
  by_cases h : j = 0
  · subst h; rw [if_pos rfl]; rfl
  · rw [if_neg h]; rfl
theorem rdS_gsJ (bs : List Nat) (j : Nat) : Kec.rdS 168 31 (gsJ bs j) 168 = gsJ bs (j + 1) := by
  unfold Kec.rdS
  rw [if_pos (by omega), sq_gsJ]
  unfold gsJ
  rw [if_neg (by omega), show (168 : Int).toNat = 168 from rfl, Kec.after_add, show 168 * j + 168 = 168 * (j + 1) by omega]
def blk (bs : List Nat) (j : Nat) : List Nat := Kec.outs 168 (Kec.after 168 (spS bs) (168 * j)) 168
theorem rdB_gsJ (bs : List Nat) (j : Nat) : Kec.rdB 168 31 (gsJ bs j) 168 = blk bs j := by
  unfold Kec.rdB
  rw [if_pos (by omega), sq_gsJ]; rfl
theorem good_gsJ (bs : List Nat) (j : Nat) : Kec.Good 168 (gsJ bs j).2 := by
  have h0 : Kec.Good 168 (Kec.takeAll 168 Kec.start bs) := Kec.good_takeAll (by omega) bs (Kec.good_start (by omega))
  unfold gsJ
  split
  · exact h0
  · exact Kec.good_after (Kec.good_turned 31 h0 (by omega) (by omega)) _
theorem wr_gsJ (bs : List Nat) : Kec.wrS 168 (false, Kec.start) bs = gsJ bs 0 := by unfold gsJ Kec.wrS; rfl
/-- all of them -/
def strm (bs : List Nat) : List Nat := Kec.sponge 168 31 bs 1680
theorem gt_blk (bs : List Nat) (j t : Nat) (hj : j < 10) (ht : t < 168) : Kec.gt (blk bs j) t = Kec.gt (strm bs) (168 * j + t) := by
  unfold blk strm Kec.sponge
  rw [Kec.gt_outs _ _ _ _ ht, Kec.outAt_add, Kec.gt_outs _ _ _ _ (by omega)]; rfl
theorem strm_lt (bs : List Nat) : ∀ i, Kec.gt (strm bs) i < 2 ^ 8 := Kec.sponge_lt _ _ _ _
theorem blk_lt (bs : List Nat) (j : Nat) : ∀ i, Kec.gt (blk bs j) i < 2 ^ 8 := Kec.gt_lt_of_mem (Kec.outs_lt _ _ _)
theorem blk_len (bs : List Nat) (j : Nat) : (blk bs j).length = 168 := Kec.outs_len _ _ _
/-- the candidates of a seed -/
def cands (bs : List Nat) : Nat → Nat := cand (Kec.gt (strm bs))
theorem cands_lt (bs : List Nat) (k : Nat) : cands bs k < 4096 := cand_lt (strm_lt bs) k
theorem cands_blk (bs : List Nat) (j k : Nat) (hj : j < 10) (hk : k < 112) : grp 12 (num 8 (Kec.gt (blk bs j)) 168) k = cands bs (112 * j + k) := by
  have h := grp_cand (blk_lt bs j) 56 k (by omega)
  rw [show 3 * 56 = 168 from rfl] at h
  rw [h]
  exact cand_shift j k (fun t ht => gt_blk bs j t hj ht) hk

structure CandI (g l : Nat) (bs : List Nat) (J : Nat → World → Prop) (X : Nat → Prop) (W : World) (k : Nat) (ds : List Nat) (j : Nat) (W' : World) : Prop where
  sp : Kec.PSt W' g 168 31 (gsJ bs j)
  yb : W'.rowIs W.heap.size 46 1 (fun _ => .func (.yield l) #[] #[])
  tb : Kec.Tables W'
  js : J k W'
  kx : Kept X W W'
  mks : MarksAt (g + 1) ds W'
theorem Kept.far {X : Nat → Prop} {N : Nat} {W A B : World} (h : Kept X W A) (k : Kept (fun b => N ≤ b) A B) (hN : W.heap.size ≤ N) : Kept X W B :=
  ⟨k.os.trans h.os, k.tape.trans h.tape, k.output.trans h.output, Nat.le_trans h.size k.size, fun i hi hx => (k.block i (Nat.lt_of_lt_of_le hi h.size) (by omega)).trans (h.block i hi hx)⟩
theorem CandI.kept {g l N : Nat} {bs : List Nat} {J : Nat → World → Prop} {X : Nat → Prop} {W : World} {k : Nat} {ds : List Nat} {j : Nat} {A B : World} (h : CandI g l bs J X W k ds j A) (hk : Kept (fun b => N ≤ b) A B)
    (hJ : ∀ k A B, J k A → Kept (fun b => W.heap.size ≤ b) A B → J k B) (hg : g < N) (hN : W.heap.size < N) (h3 : 3 ≤ W.heap.size) (hds : ∀ D ∈ ds, D < N) : CandI g l bs J X W k ds j B :=
  ⟨h.sp.of_block (hk.block g h.sp.lt (by omega)), h.yb.of_block (hk.block _ h.yb.lt (by omega)), h.tb.keep fun i hi => hk.block i (by have := h.tb.lt; omega) (by omega), hJ _ _ _ h.js (hk.mono fun i e => by omega), Kept.far h.kx hk (by omega), h.mks.kept hk fun D hD e => by have := hds D hD; omega⟩
set_option maxHeartbeats 4000000 in
set_option maxRecDepth 100000 in
theorem cand_hands (bx : Nat) (A : Option Addr) (bs : List Nat) (n c : Nat) (X : Nat → Prop) (w : World) (hX : ∀ k, X k → 3 ≤ k ∧ k < w.heap.size + 2 ∧ k ≠ bx ∧ ∀ ad, A = some ad → k ≠ ad.block)
    (hcx : w.cell? ⟨bx, 0, none⟩ = some (.slice A n c)) (hR : Kec.Rd w w.heap.size A bs) (hn : bs.length = n) (hm : n ≤ 9223372036854775807) (hT : Kec.Tables w) :
    HandsN Tryd.prog 36 #[.pointer (some ⟨bx, 0, none⟩)] 1120 (fun k => #[.int .i64 (cands bs k : Nat)]) X w := by
  intro l J Jx W hW hsz hJ hJx hY h0
  have HJ := Lib.hid hJ; have HJX := Lib.hid hJx; have HY := Lib.hid hY; have H0 := Lib.hid h0; have HX := Lib.hid hX; have HN := Lib.hid hn
  have h3w : 3 ≤ w.heap.size := hT.lt
  have hwz : w.heap.size ≤ W.heap.size := hW.size
  have HTW := Lib.hid (hT.below hW h3w)
  have HRW := Lib.hid ((hR.below hW).more hwz)
  have cx := (hW.cell (p := ⟨bx, 0, none⟩) (block_lt_of_cell hcx)).trans hcx
  have hbx : bx < W.heap.size := block_lt_of_cell cx
  clear hJ hJx hY h0 hX hcx hR hn hT hW
  have HCX := Lib.hid cx; have HSZ := Lib.hid hsz; have HBX := Lib.hid hbx
  clear cx hsz hbx
  have hg0 := heap_alloc_last W (.cells #[.func (.yield l) #[] #[]] 46)
  have hb0 := (Below.refl W.heap.size W).alloc (Nat.le_refl _) (.cells #[.func (.yield l) #[] #[]] 46)
  have hs0 : (W.alloc (.cells #[.func (.yield l) #[] #[]] 46)).heap.size = W.heap.size + 1 := by simp
  refine callsIn_of_wp_marks Tryd.func36 rfl trivial ?_ rfl
  simp only [Tryd.ntmps36, List.size_toArray, List.length_cons, List.length_nil, Nat.reduceAdd, Nat.reduceSub, Array.replicate_succ, Array.replicate_zero, List.push_toArray, List.append_toArray, List.nil_append, List.cons_append]
  gi_wp2_with fail
  obtain ⟨w0, hw0⟩ : ∃ w0, W.alloc (.cells #[.func (.yield l) #[] #[]] 46) = w0 := ⟨_, rfl⟩
  rw [hw0] at hg0 hb0 hs0
  rw [hw0]
  refine ⟨trivial, rfl, ?_⟩
  refine (callsIn_wide.2 (Kec.new_any 168 31 _ (by omega) (by omega) (by omega))).mono ?_
  rintro e' w1 ⟨rfl, hsp, hb1, hs1⟩
  obtain ⟨g, hg⟩ : ∃ g, w0.heap.size = g := ⟨_, rfl⟩
  have hgW : g = W.heap.size + 1 := by omega
  rw [hg] at hsp hb1 hs1
  rw [hg]
  have hy1 : w1.rowIs W.heap.size 46 1 (fun _ => .func (.yield l) #[] #[]) := ⟨_, (hb1.block _ (by omega)).trans hg0, rfl, fun i hi => by obtain rfl : i = 0 := (by omega); rfl⟩
  have hbw1 : Below W.heap.size W w1 := hb0.trans (hb1.mono (by omega))
  have HY1 := Lib.hid hy1; have HB1 := Lib.hid hbw1; have HSP := Lib.hid hsp; have HG := Lib.hid hgW; have HS1 := Lib.hid hs1
  have c1 : w1.cell? ⟨bx, 0, none⟩ = some (.slice A n c) := (hbw1.cell (p := ⟨bx, 0, none⟩) HBX.out).trans HCX.out
  clear hw0 hg0 hb0 hs0 hsp hb1 hs1 hg hgW hy1 hbw1
  gi_wp2_with fail
  clear c1
  refine ⟨trivial, rfl, ?_⟩
  refine (callsIn_wide.2 (Kec.pwrite_all g 168 31 W.heap.size (false, Kec.start) A bs n c w1 HSP.out (Kec.good_start (by omega)) (by omega) (HTW.out.below HB1.out (by omega)) (by have := HG.out; omega) (HRW.out.below HB1.out) (by have := HG.out; omega) HN.out hm)).mono ?_
  rintro e' w2 ⟨rfl, hp2, hg2⟩
  rw [wr_gsJ] at hp2
  have hk2 : Kept (fun b => W.heap.size ≤ b) W w2 := (Kept.of_below HB1.out).trans (Kept.of_grown hg2 fun r e => by cases e; have := HG.out; omega)
  have HCI : Hid (CandI g l bs J X W 0 [] 0 w2) := Lib.hid ⟨hp2, HY1.out.of_block (hg2.block _ HY1.out.lt (by intro e; injection e; have := HG.out; omega)), HTW.out.keep fun i hi => hk2.block i (by omega) (by omega), HJ.out _ _ _ H0.out hk2, Kept.far (Kept.refl X W) hk2 (Nat.le_refl _), trivial⟩
  clear hp2 hg2 hk2
  gi_wp2_with fail
  refine wpIn_loop (fun a' W' => ∃ (j : Nat) (ds : List Nat) (v10 v11 v12 v13 v19 : Value), j ≤ 10 ∧ a' = { tmps := #[.func (.yield l) #[] #[], .pointer (some ⟨bx, 0, none⟩), .pointer (some ⟨W.heap.size, 0, none⟩), .pointer (some ⟨g, 0, none⟩), undef, .pointer (some ⟨g, 0, none⟩), .pointer (some ⟨g, 0, none⟩), .slice A n c, .tuple #[], .int .i64 j, v10, v11, v12, v13, undef, undef, undef, undef, undef, v19], defers := marks ds } ∧ Hid (CandI g l bs J X W (112 * j) ds j W')) (fun a' _ => 10 - (intOf (a'.tmps.getD 9 undef)).toNat) ⟨0, [], undef, undef, undef, undef, undef, by omega, rfl, HCI⟩ ?_
  rintro a' wr ⟨j, ds, v10, v11, v12, v13, v19, hj, rfl, HC⟩
  have hgl := HC.out.sp.lt
  have hsz3 := HC.out.kx.size
  by_cases hlt : j < 10
  · gi_wp2_with fail
    refine ⟨trivial, rfl, ?_⟩
    refine (callsIn_wide.2 (Kec.pread_all g 168 31 (gsJ bs j) 168 wr HC.out.sp (good_gsJ bs j) (by omega) (by omega) (by omega) HC.out.tb (by have := HG.out; omega))).mono ?_
    rintro e' w3 ⟨v, rfl, hh, hp3, hg3⟩
    rw [rdS_gsJ] at hp3
    rw [rdB_gsJ] at hh
    obtain ⟨A3, n3, c3, rfl, hR3, hn3, hlo3⟩ := hh
    obtain rfl : n3 = 168 := by rw [← hn3]; exact blk_len bs j
    have hk3 : Kept (fun b => W.heap.size ≤ b) wr w3 := Kept.of_grown hg3 fun r e => by cases e; have := HG.out; omega
    have hC3 : CandI g l bs J X W (112 * j) ds (j + 1) w3 := ⟨hp3, HC.out.yb.of_block (hg3.block _ HC.out.yb.lt (by intro e; injection e; have := HG.out; omega)), HC.out.tb.keep fun i hi => hk3.block i (by have := HC.out.tb.lt; omega) (by omega), HJ.out _ _ _ HC.out.js hk3, Kept.far HC.out.kx hk3 (Nat.le_refl _), by
      refine HC.out.mks.kept (X := fun b => b = g) (Kept.of_grown hg3 fun r e => by cases e; rfl) fun D hD e => ?_
      have := HC.out.mks.lt D hD
      omega⟩
    have HC3 := Lib.hid hC3; have HR3 := Lib.hid hR3; have HN3 := Lib.hid hn3; have HLO := Lib.hid hlo3
    have hs3 : wr.heap.size ≤ w3.heap.size := hg3.size
    clear hk3 hC3 hR3 hn3 hlo3 hp3 hg3
    gi_wp2_with fail
    refine ⟨trivial, rfl, ?_⟩
    refine (callsIn_wide.2 (regb_any A3 168 c3 8 12 w3)).mono ?_
    rintro e' w4 ⟨rfl, hw4⟩
    obtain ⟨b1, b2, b3, b4, b5⟩ := three_boxes w3 (.slice A3 168 c3) (.int .i64 8) (.int .i64 12) 22 3 3
    rw [← hw4] at b1 b2 b3 b4 b5
    have hds : ∀ D ∈ ds, D < w3.heap.size := fun D hD => (HC3.out.mks.lt D hD).2
    have hC4 : CandI g l bs J X W (112 * j) ds (j + 1) w4 := HC3.out.kept (N := w3.heap.size) (Kept.of_below b5) HJ.out HC3.out.sp.lt (by have := HC3.out.sp.lt; have := HG.out; omega) (by omega) hds
    have HC4 := Lib.hid hC4; have HDS := Lib.hid hds
    have HR4 := Lib.hid ((HR3.out.below b5).more b5.size)
    have B1 := Lib.hid b1; have B2 := Lib.hid b2; have B3 := Lib.hid b3; have B4 := Lib.hid b4
    have hgl3 := HC3.out.sp.lt
    clear hw4 b1 b2 b3 b4 b5 hC4 hds
    gi_wp2_with fail
    refine wp_range_n (P := Tryd.prog) (gf := 49) (lb := #[.pointer (some ⟨w3.heap.size, 0, none⟩), .pointer (some ⟨w3.heap.size + 1, 0, none⟩), .pointer (some ⟨w3.heap.size + 2, 0, none⟩)]) rfl (enters_of Tryd.func49 (by kernel_rfl) rfl)
      X (fun k e => by have := HX.out k e; have := B4.out; have := HSZ.out; omega)
      (regb_hands w3.heap.size (w3.heap.size + 1) (w3.heap.size + 2) A3 (blk bs j) 168 c3 12 _ w4 (fun k e => by
        have h4 := B4.out; have hz := HSZ.out
        have hk : k < W.heap.size ∨ w4.heap.size ≤ k := by
          rcases e with e | e | e
          · have := HX.out k e; omega
          · omega
          · omega
        refine ⟨?_, by omega, by omega, by omega, fun ad ea => ?_⟩
        · rcases e with e | e | e
          · have := HX.out k e; omega
          · omega
          · omega
        · have h1 := HLO.out ad ea
          obtain ⟨ad', ha', h2, -⟩ := HR3.out.2 (by rw [HN3.out]; omega)
          rw [ea] at ha'
          cases ha'
          omega) (by omega) (by omega) B1.out B2.out B3.out HR4.out HN3.out (by omega))
      (fun x => rfl) (fun k W' => CandI g l bs J X W (112 * j + k) ds (j + 1) W') (fun x k W' => x = .ret ∧ Jx (112 * j + k) W' ∧ MarksAt (g + 1) ds W')
      (fun k A B h hk => by have := B4.out; exact h.kept hk HJ.out (by omega) (by have := HG.out; omega) (by omega) (fun D hD => by have := HDS.out D hD; omega))
      (fun x k A B h hk => by have := B4.out; exact ⟨h.1, HJX.out _ _ _ h.2.1 (hk.mono fun i e => by have := HG.out; omega), h.2.2.kept hk fun D hD e => by have := HDS.out D hD; omega⟩) HC4.out
      (fun k => { tmps := #[.func (.yield l) #[] #[], .pointer (some ⟨bx, 0, none⟩), .pointer (some ⟨W.heap.size, 0, none⟩), .pointer (some ⟨g, 0, none⟩), (.int .i64 ((grp 12 (num 8 (Kec.gt (blk bs j)) 168) k : Nat) : Int)), .pointer (some ⟨g, 0, none⟩), .pointer (some ⟨g, 0, none⟩), .slice A n c, .tuple #[], .int .i64 j, .bool true, .pointer (some ⟨g, 0, none⟩), .slice A3 168 c3, (.func (.func 49) #[] #[.pointer (some ⟨w3.heap.size, 0, none⟩), .pointer (some ⟨w3.heap.size + 1, 0, none⟩), .pointer (some ⟨w3.heap.size + 2, 0, none⟩)]), (.int .i64 ((grp 12 (num 8 (Kec.gt (blk bs j)) 168) k : Nat) : Int)), undef, undef, undef, undef, v19], defers := [] }) ?assign ?body ?done ?stop
    case assign =>
      intro l x W K hK
      gi_wp2
      exact hK
    case body =>
      intro l' k W' hk hszW hI
      have hk112 : k < 112 := hk
      have HI := Lib.hid hI
      rw [cands_blk bs j k hlt hk112]
      have c0 := hI.yb.cell (i := 0) (by omega)
      obtain ⟨fn, tmps, assign, body, hy, hRr⟩ := HY.out (112 * j + k) W' (by omega) hI.js
      have HR9 := Lib.hid hRr
      clear hRr hI hk
      gi_wp2_with fail
      refine ⟨rfl, HR9.out.mono ?_⟩
      rintro e' W6 (⟨rfl, hJ6, hK6⟩ | ⟨rfl, hJ6, hK6⟩)
      · gi_wp2
        refine ⟨hK6, HI.out.sp.of_block (hK6.block g HI.out.sp.lt (fun e => by have := HX.out _ e; have := HG.out; have := HSZ.out; omega)), HI.out.yb.of_block (hK6.block _ HI.out.yb.lt (fun e => by have := HX.out _ e; have := HSZ.out; omega)), HI.out.tb.keep fun i hi => hK6.block i (by have := HI.out.tb.lt; omega) (fun e => by have := HX.out _ e; omega), hJ6, HI.out.kx.trans hK6, HI.out.mks.kept hK6 fun D hD e => by have := HX.out _ e; have := HG.out; have := HSZ.out; have := HI.out.mks.lt D hD; omega⟩
      · gi_wp2
        exact ⟨hK6, rfl, hJ6, HI.out.mks.kept hK6 fun D hD e => by have := HX.out _ e; have := HG.out; have := HSZ.out; have := HI.out.mks.lt D hD; omega⟩
    case done =>
      intro W' hI hD
      have hC9 : CandI g l bs J X W (112 * (j + 1)) (w4.heap.size :: ds) (j + 1) W' := ⟨hI.sp, hI.yb, hI.tb, by rw [Nat.mul_succ]; exact hI.js, hI.kx, by have := B4.out; omega, fun E hE => by have := HDS.out E hE; have := B4.out; omega, hD, hI.mks⟩
      have HC9 := Lib.hid hC9
      clear hC9 hI hD
      rename_i K hK
      refine hK _ _ ?_
      clear hK K
      gi_wp2
      refine ⟨⟨j + 1, w4.heap.size :: ds, _, _, _, _, _, by omega, rfl, HC9⟩, ?_⟩
      show 10 - (intOf (.int .i64 ((j : Int) + 1))).toNat < 10 - (intOf (.int .i64 (j : Int))).toNat
      simp [intOf]; omega
    case stop =>
      intro x k W' hk h hD
      obtain ⟨rfl, hX, hM⟩ := h
      gi_wp2_with fail
      exact leaves_marks (lo := g + 1) (w4.heap.size :: ds) W' ⟨by have := B4.out; omega, fun E hE => by have := HDS.out E hE; have := B4.out; omega, hD, hM⟩ fun W9 hk9 => ⟨_, results_none rfl _ _ _, ⟨_, rfl⟩, .inr ⟨112 * j + k, by have hk' : k ≤ 112 := hk; omega, HJX.out _ _ _ hX (hk9.mono fun i e => by have := HG.out; omega)⟩⟩
  · obtain rfl : j = 10 := by omega
    gi_wp2_with fail
    exact leaves_marks (lo := g + 1) ds wr HC.out.mks fun W9 hk9 => ⟨_, results_none rfl _ _ _, ⟨_, rfl⟩, .inl (HJ.out _ _ _ HC.out.js (hk9.mono fun i e => by have := HG.out; omega))⟩
end Go.Proofs.YtdkhiooiakdecaaDoorR.Kp
