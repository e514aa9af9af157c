/- Walks: replaced. -/
import Derived.Test.YtakglldffpnlaaaGreatDoorRtM4
import Derived.Test.YtakglldffpnlaaaGreatDoorRtRemP
namespace Go.Proofs.YtakglldffpnlaaaGreatDoor.Rt
set_option linter.all false
open Go.RowKit Iter
open Wr (Txt Any New)
attribute [local go_sem] Oper.semAt_some

/-- while the nodes above a leaf are made blank -/
structure RemI (bs : Nat) (S0 : Nat → Prop) (g N j : Nat) (w0 : World) (ns : List Nd) (k : Nat) (Y : Nat → Prop) (W : World) : Prop where
  own : OwnN S0 W bs g N N (upBl j ns k)
  yy : ∀ b, Y b ↔ b = g
  kx : Kept (fun b => b = g ∨ w0.heap.size ≤ b) w0 W
theorem RemI.kept {bs : Nat} {S0 : Nat → Prop} {g N j k : Nat} {w0 : World} {ns : List Nd} {Y : Nat → Prop} {A W : World} (h : RemI bs S0 g N j w0 ns k Y A) (hk : Kept (fun b => w0.heap.size ≤ b ∧ ¬ Y b) A W) (hg : g < w0.heap.size) (hB : ∀ b, S0 b → b < w0.heap.size) : RemI bs S0 g N j w0 ns k Y W :=
  ⟨h.own.kept hk.size (hk.block g h.own.lt.2 (fun e => by omega)) (fun b hb hlt => hk.block b hlt fun e => by have := hB b hb; omega), h.yy, h.kx.trans (hk.mono fun i e => .inr e.1)⟩

set_option maxHeartbeats 8000000 in
set_option maxRecDepth 100000 in
theorem replaced_isS (S0 : Nat → Prop) (d : Nat) (A : Option Addr) (n c : Nat) (ns : List Nd) (q : NdQ) (nl : Nd) (j : Nat) (w : World) (hS0 : ∀ b, S0 b → b < w.heap.size) (hFN : ∀ ad, A = some ad → ∀ j q, j < n → NdAt w (ad.add (j * 6)) q → NdFar S0 q) (hFQ : NdFar S0 q) (hN : Nodes Any Any w A n c ns) (hq : NdIs Any w q nl) (hr : Right ns d) (hj : j < 2 ^ d) :
    Calls Tryz.prog 39 #[.agg #[.int .i64 d, .slice A n c], .int .i64 j, .agg q.cs] w fun e w' => ∃ g, e = .returned (.agg #[.int .i64 d, .slice (some ⟨g, 0, none⟩) (2 ^ (d + 1) - 1) (2 ^ (d + 1) - 1)]) ∧ (∃ bs, w.heap.size ≤ bs ∧ OwnN S0 w' bs g (2 ^ (d + 1) - 1) (2 ^ (d + 1) - 1) (renF ns d j nl)) ∧ Below w.heap.size w w' := by
  have HFN := Lib.hid (fun W (hb : Below w.heap.size w W) => hN.farT hFN hb)
  have HQS := Lib.hid hFQ; have HS0 := Lib.hid hS0
  clear hFN hFQ hS0
  obtain ⟨W0, hW0, hI, hz⟩ := AdI.new d A n c q w
  have HI := Lib.hid hI
  have hd6 := hr.deep
  have hnn : n = 2 ^ (d + 1) - 1 := by rw [← hr.len, hN.len]
  obtain ⟨t0, t1⟩ := hI.tr.cs
  obtain ⟨u0, u1, u2, u3, u4, u5⟩ := hI.lf.cs
  have HN := Lib.hid hN; have HQ := Lib.hid hq; have HR := Lib.hid hr
  have hgr : grow ns d = ns := by unfold grow; rw [hr.len, Nat.sub_self]; simp
  have CC : Hid (∀ W, AdI d A n c q w W → Calls Tryz.prog 32 #[.agg #[.int .i64 d, .slice A n c], .int .i64 d] W fun e' w' => ∃ g, e' = .returned (.agg #[.int .i64 d, .slice (some ⟨g, 0, none⟩) (2 ^ (d + 1) - 1) (2 ^ (d + 1) - 1)]) ∧ OwnN S0 w' W.heap.size g (2 ^ (d + 1) - 1) (2 ^ (d + 1) - 1) ns ∧ Below W.heap.size W w') := Lib.hid fun W hI => by
    have h := copied_isB S0 d d A n c ns W (fun b hb => Nat.lt_of_lt_of_le (HS0.out b hb) hI.bl.size) (HFN.out W hI.bl) (Nat.le_refl _) (by omega) hnn (HN.out.below hI.bl)
    rw [hgr] at h
    exact h
  obtain ⟨k, A1, n1, c1, A2, n2, c2, A3, n3, c3, A4, n4, c4, A5, n5, c5⟩ := q
  dsimp only [NdQ.cs] at *
  obtain ⟨N, hNe⟩ : ∃ N, 2 ^ (d + 1) - 1 = N := ⟨_, rfl⟩
  rw [hNe] at CC ⊢
  have hjN : 2 * j < N := by have : 2 ^ (d + 1) = 2 * 2 ^ d := by { rw [Nat.pow_succ]; omega }; omega
  have h128 : 2 ^ (d + 1) ≤ 2 ^ 7 := Nat.pow_le_pow_right (by decide) (by omega)
  have HD : Hid (d ≤ 6 ∧ j < 2 ^ d ∧ 2 ^ (d + 1) - 1 = N ∧ 2 * j < N ∧ N ≤ 127) := Lib.hid ⟨hd6, hj, hNe, hjN, by omega⟩
  have hj63 : j ≤ 64 := by omega
  have hN127 : N ≤ 127 := by omega
  clear hI hN hq hr hgr hnn hd6 hj hNe hjN h128
  refine callsIn_wide.1 (callsIn_of_wp_marks (n := 0) Tryz.func39 rfl trivial ?_ rfl)
  simp only [Tryz.ntmps39, List.size_toArray, List.length_cons, List.length_nil, Nat.reduceAdd, Nat.reduceSub, Array.replicate_succ, Array.replicate_zero, List.push_toArray, List.append_toArray, List.nil_append, List.cons_append]
  gi_wp2_with fail
  refine ⟨trivial, rfl, (callsIn_wide.2 (CC.out _ HI.out)).mono ?_⟩
  rintro e' w7 ⟨g, rfl, ho7, hb7⟩
  have HA7 := Lib.hid (HI.out.below hb7)
  obtain ⟨w8, hw8⟩ : ∃ w8, w7.alloc (.cells #[.int .i64 d, .slice (some ⟨g, 0, none⟩) N N] 24) = w8 := ⟨_, rfl⟩
  have hb8 : Below w7.heap.size w7 w8 := by rw [← hw8]; exact below_one _ _
  have HTR8 : Hid (TrB d (some ⟨g, 0, none⟩) N N w8 w7.heap.size) := Lib.hid (by rw [← hw8]; exact TrB.new _ _ _ _ _)
  have hs8 : w8.heap.size = w7.heap.size + 1 := by rw [← hw8, World.size_alloc]
  have HO8 := Lib.hid (ho7.below hb8)
  have HA8 := Lib.hid (HA7.out.below hb8)
  have HG : Hid (W0.heap.size ≤ g ∧ g < w7.heap.size ∧ W0.heap.size ≤ w7.heap.size ∧ W0.heap.size = w.heap.size + 1 + 1 + 1) := Lib.hid ⟨ho7.lt.1, ho7.lt.2, hb7.size, hz⟩
  obtain ⟨f2, hf2⟩ : ∃ f2, 2 * j = f2 := ⟨_, rfl⟩
  have x2 : (2 : Int) * (j : Int) = (f2 : Int) := by omega
  have HF2 : Hid (2 * j = f2 ∧ f2 < N) := Lib.hid ⟨hf2, by have := HD.out; omega⟩
  have hfN : (f2 : Int) < (N : Int) := by have := HF2.out; omega
  have hf127 : f2 ≤ 127 := by have := HF2.out; omega
  obtain ⟨t0, t1⟩ := HTR8.out.cs
  obtain ⟨u0, u1, u2, u3, u4, u5⟩ := HA8.out.lf.cs
  dsimp only at u0 u1 u2 u3 u4 u5
  have HQ8 : Hid (NdIs Any w8 { k := k, A1 := A1, n1 := n1, c1 := c1, A2 := A2, n2 := n2, c2 := c2, A3 := A3, n3 := n3, c3 := c3, A4 := A4, n4 := n4, c4 := c4, A5 := A5, n5 := n5, c5 := c5 } nl) := Lib.hid (HQ.out.below HA8.out.bl)
  have hzz := hz
  clear ho7 hb7 hb8 hf2 hz hW0
  gi_wp2_with (refine wpListIn_of_wp (plain_wide _) rfl (fun c e => by cases e) (fun K hK => wp_store_node (.tmp 18) (.tmp 17) rfl S0 W0.heap.size g N N ns f2 { k := k, A1 := A1, n1 := n1, c1 := c1, A2 := A2, n2 := n2, c2 := c2, A3 := A3, n3 := n3, c3 := c3, A4 := A4, n4 := n4, c4 := c4, A5 := A5, n5 := n5, c5 := c5 } nl rfl rfl HO8.out HF2.out.2 HQ8.out HQS.out ?_))
  intro w9 ho9 hg9 hs9
  have HO9 := Lib.hid ho9; have HG9 := Lib.hid hg9
  have HG' := HG.out
  have t0' : w9.cell? ⟨w7.heap.size, 0, none⟩ = some (.int .i64 d) := (World.cell?_of_block (hg9.block w7.heap.size (by omega) (by intro e; injection e; omega))).trans t0
  have t1' : w9.cell? ⟨w7.heap.size, 1, none⟩ = some (.slice (some ⟨g, 0, none⟩) N N) := (World.cell?_of_block (hg9.block w7.heap.size (by omega) (by intro e; injection e; omega))).trans t1
  have CA := Lib.hid (above_any d j (some ⟨g, 0, none⟩) N N w9)
  have HS9 : Hid (w9.heap.size = w7.heap.size + 1) := Lib.hid (by rw [hs9] <;> first | rfl | exact hs8)
  clear ho9 hg9 hs9 t0 t1 u0 u1 u2 u3 u4 u5 hw8 hs8
  refine hK _ _ ?_
  clear hK K
  gi_wp2_with fail
  refine ⟨trivial, rfl, (callsIn_wide.2 CA.out).mono ?_⟩
  rintro e' w10 ⟨rfl, hw10⟩
  have HW10 := Lib.hid hw10
  clear hw10 t0' t1'
  gi_wp2_with fail
  have hz9 := HS9.out
  have s10 : w10.heap.size = w9.heap.size + 1 + 1 := by rw [HW10.out]; simp
  have hb10 : Below w9.heap.size w9 w10 := by rw [HW10.out]; exact ((Below.refl _ w9).alloc (Nat.le_refl _) _).alloc (by simp) _
  have ht10 : TrB d (some ⟨g, 0, none⟩) N N w10 w9.heap.size := by rw [HW10.out]; exact (TrB.new _ _ _ _ w9).below (below_one _ _) (by simp)
  have hc10 : w10.cell? ⟨w9.heap.size + 1, 0, none⟩ = some (.int .i64 j) := by
    have h := heap_alloc_last (w9.alloc (.cells #[.int .i64 d, .slice (some ⟨g, 0, none⟩) N N] 24)) (.cells #[.int .i64 j] 3)
    rw [World.size_alloc, ← HW10.out] at h
    exact cell_of_row w10 _ 0 _ _ _ h
  have hle := HI.out.bl.size
  have HS10 : Hid (w10.heap.size = w9.heap.size + 1 + 1 ∧ w9.heap.size = w7.heap.size + 1) := Lib.hid ⟨s10, hz9⟩
  have HB9 : Hid (Below w.heap.size w w9) := Lib.hid (Wr.below_of_only HA8.out.bl HG9.out (by omega))
  have HB10 : Hid (Below w.heap.size w w10) := Lib.hid (HB9.out.trans (hb10.mono (by omega)))
  have HTR10 : Hid (TrB d (some ⟨g, 0, none⟩) N N w10 w7.heap.size) := Lib.hid ((hb10.block _ (by omega)).trans ((HG9.out.block _ (by have := HTR8.out.lt; omega) (by intro e; injection e; omega)).trans HTR8.out))
  have HOUT10 : Hid (w10.heap[w.heap.size + 1 + 1]? = some (.cells zt 24 (0, 0))) := Lib.hid ((hb10.block _ (by omega)).trans ((HG9.out.block _ (by have := HA8.out.bl.size; have := (Array.getElem?_eq_some_iff.1 HA8.out.out).1; omega) (by intro e; injection e; omega)).trans HA8.out.out))
  have HP : Hid (∀ k9, k9 < d → idx (k9 + 1) (j / 2 ^ (k9 + 1)) < N) := Lib.hid fun k9 hk9 => by
    rw [← HD.out.2.2.1]
    exact idx_lt (by omega) (up_lt HD.out.2.1 (by omega))
  obtain ⟨ns1, hns1⟩ : ∃ ns1, ns.set f2 nl = ns1 := ⟨_, rfl⟩
  have hI0 : RemI (w.heap.size + 1 + 1 + 1) S0 g N j w10 ns1 0 (fun b => b = g) w10 := ⟨(by
    have h := HO9.out.below hb10
    rw [hns1] at h
    exact h), fun b => Iff.rfl, Kept.refl _ _⟩
  have HNS1 := Lib.hid hns1
  clear hns1
  have hAH := above_hands (w9.heap.size + 1) w9.heap.size j d g N N (fun b => (b = g) ∨ b = w10.heap.size ∨ b = w10.heap.size + 1) w10 (by have := HD.out; omega) HD.out.2.1 HD.out.2.2.1.symm (fun b hb => by omega) hc10 ht10
  refine wp_range_d (P := Tryz.prog) (gf := 60) (lb := #[.pointer (some ⟨w9.heap.size + 1, 0, none⟩), .pointer (some ⟨w9.heap.size, 0, none⟩)]) (cnt := d) (val := fun k9 => #[.pointer (some ⟨g, idx (k9 + 1) (j / 2 ^ (k9 + 1)) * 6, none⟩)]) (a₁ := fun k9 => { tmps := #[.agg #[.int .i64 d, .slice A n c], .int .i64 j, .agg (ndc k A1 n1 c1 A2 n2 c2 A3 n3 c3 A4 n4 c4 A5 n5 c5), .pointer (some ⟨w.heap.size, 0, none⟩), undef, .pointer (some ⟨w.heap.size + 1, 0, none⟩), .pointer (some ⟨w.heap.size + 1 + 1, 0, none⟩), .pointer (some ⟨w7.heap.size, 0, none⟩), .pointer (some ⟨g, idx (k9 + 1) (j / 2 ^ (k9 + 1)) * 6, none⟩), .agg #[.int .i64 d, .slice A n c], .pointer (some ⟨w.heap.size, 0, none⟩), .int .i64 d, .agg #[.int .i64 d, .slice (some ⟨g, 0, none⟩) N N], .pointer (some ⟨w7.heap.size, 1, none⟩), .slice (some ⟨g, 0, none⟩) N N, .int .i64 j, .int .i64 f2, .agg (ndc k A1 n1 c1 A2 n2 c2 A3 n3 c3 A4 n4 c4 A5 n5 c5), .pointer (some ⟨g, f2 * 6, none⟩), .agg #[.int .i64 d, .slice (some ⟨g, 0, none⟩) N N], .int .i64 j, .func (.func 60) #[] #[.pointer (some ⟨w9.heap.size + 1, 0, none⟩), .pointer (some ⟨w9.heap.size, 0, none⟩)], .pointer (some ⟨g, idx (k9 + 1) (j / 2 ^ (k9 + 1)) * 6, none⟩), undef, undef, undef, undef], defers := [] }) rfl (enters_of Tryz.func60 (by kernel_rfl) rfl)
    (fun b => b = g) (fun b e => by omega) hAH
    (fun k => rfl) (RemI (w.heap.size + 1 + 1 + 1) S0 g N j w10 ns1) (fun x k Y W => False)
    (fun k Y A B h hk => h.kept hk (by omega) (fun b hb => by have := HS0.out b hb; omega)) (fun x k Y A B h hk => h) hI0 ?assign ?body ?done ?stop
  case assign =>
    intro l k9 W K hK
    clear hz9 s10
    gi_wp2
    exact hK
  case stop =>
    intro x k9 Y W hk h hD hYN
    exact h.elim
  case body =>
    intro l k9 Y W hk hszW hYN hI
    have hlt := HP.out k9 hk
    have HOB := Lib.hid hI.own; have HYY := Lib.hid hI.yy; have HKX := Lib.hid hI.kx
    have HZQ : Hid (NdIs Any W zeroQ blank) := Lib.hid (NdIs.zero _ _)
    obtain ⟨a, ha⟩ : ∃ a, idx (k9 + 1) (j / 2 ^ (k9 + 1)) = a := ⟨_, rfl⟩
    have HAA := Lib.hid ha
    simp only [ha]
    rw [ha] at hlt
    have HLT := Lib.hid hlt
    clear hI hszW hk ha hlt hz9 s10
    gi_wp2_with (refine wpListIn_of_wp (plain_round _ l) rfl (fun c e => by cases e) (fun K hK => wp_store_node (.tmp 25) (.tmp 24) rfl S0 (w.heap.size + 1 + 1 + 1) g N N (upBl j ns1 k9) a zeroQ blank rfl rfl HOB.out HLT.out HZQ.out (NdFar.zero _) ?_))
    intro w11 ho11 hg11 hs11
    have HO11 : Hid (OwnN S0 w11 (w.heap.size + 1 + 1 + 1) g N N (upBl j ns1 (k9 + 1))) := Lib.hid (by rw [upBl, HAA.out]; exact ho11)
    have HG11 := Lib.hid hg11
    clear ho11 hg11 hs11
    refine hK _ _ ?_
    clear hK K
    gi_wp2_with fail
    have hkp : Kept (fun b => b = g) W w11 := ⟨HG11.out.os, HG11.out.tape, HG11.out.output, HG11.out.size, fun i hlt hi => HG11.out.block i hlt (by intro e; injection e with e; exact hi e)⟩
    exact ⟨Y, fun b hb => ⟨.inl hb, by rw [(HYY.out b).1 hb]; exact HO11.out.lt.2⟩, hkp.mono (fun i h => (HYY.out i).2 h), ⟨HO11.out, HYY.out, HKX.out.trans (hkp.mono fun i h => .inl h)⟩⟩
  case done =>
    intro Y W hI hD hYN
    have HI9 := Lib.hid hI; have HDF := Lib.hid hD; have HYN := Lib.hid hYN
    have HBW : Hid (Below w.heap.size w W) := Lib.hid (Kept.below HB10.out hI.kx (fun i e => by omega) HB10.out.size)
    have HTW : Hid (TrB d (some ⟨g, 0, none⟩) N N W w7.heap.size) := Lib.hid ((hI.kx.block _ (by omega) (fun e => by omega)).trans HTR10.out)
    have HOW : Hid (W.heap[w.heap.size + 1 + 1]? = some (.cells zt 24 (0, 0))) := Lib.hid ((hI.kx.block _ (by omega) (fun e => by omega)).trans HOUT10.out)
    obtain ⟨s0, s1⟩ := HTW.out.cs
    clear hI hD hYN
    rename_i K hK
    refine hK _ _ ?_
    clear hK K
    clear hz9 s10
    gi_wp2_with (refine wpListIn_of_wp (plain_wide _) rfl (fun c e => by cases e) (fun K hK => wp_store_row 24 (.tmp 6) (.tmp 26) rfl (w.heap.size + 1 + 1) #[.int .i64 d, .slice (some ⟨g, 0, none⟩) N N] rfl rfl 24 zt HOW.out (tr_sized _ _ _ _) rfl (tr_all _ _ _ _) ?_))
    have HQZ := Lib.hid (setRow_heap W (w.heap.size + 1 + 1) _ #[.int .i64 d, .slice (some ⟨g, 0, none⟩) N N] 24 _ HOW.out)
    have HDZ : Hid ((W.setRow (w.heap.size + 1 + 1) #[.int .i64 d, .slice (some ⟨g, 0, none⟩) N N]).heap[w10.heap.size]? = some (.deferred (some []))) := Lib.hid ((setRow_other W _ _ _ (by have := HS10.out; omega)).trans HDF.out)
    refine leaves_marks2 (lo := 0) [w10.heap.size] _ ⟨by omega, fun E hE => (by cases hE), HDZ.out, trivial⟩ fun W9 hk9 => ⟨_, results_cell_row (p := 6) (ty := 24) (by kernel_rfl) _ _ (w.heap.size + 1 + 1) 24 #[.int .i64 d, .slice (some ⟨g, 0, none⟩) N N] (0, 0) _ rfl ((hk9.block _ (Array.getElem?_eq_some_iff.1 HQZ.out).1 (fun h => by have := List.mem_singleton.1 h; have := HS10.out; omega)).trans HQZ.out) Tryz.underlying24 rfl (tr_sized _ _ _ _), ?_⟩
    have hkz : Kept (fun i => i = w.heap.size + 1 + 1 ∨ i ∈ [w10.heap.size]) W W9 := ((⟨rfl, rfl, rfl, by simp [World.setRow], fun i _ hi => setRow_other W _ _ _ (fun h => hi (by left; omega))⟩ : Kept _ W (W.setRow (w.heap.size + 1 + 1) #[.int .i64 d, .slice (some ⟨g, 0, none⟩) N N]))).trans (hk9.mono fun i h => .inr h)
    have hgne : g ≠ w.heap.size + 1 + 1 ∧ g ≠ w10.heap.size := ⟨by omega, by have := HS10.out; omega⟩
    have hown := HI9.out.own.kept hkz.size (hkz.block g HI9.out.own.lt.2 (fun h => by rcases h with h | h; { exact hgne.1 h }; { exact hgne.2 (List.mem_singleton.1 h) })) (fun b hb hlt => hkz.block b hlt (fun h => by
      have h10 := HS10.out
      have hb := HS0.out b hb
      rcases h with h | h
      · omega
      · have := List.mem_singleton.1 h; omega))
    refine ⟨g, rfl, ⟨w.heap.size + 1 + 1 + 1, by omega, ?_⟩, Kept.below HBW.out hkz (fun i e => ?_) HBW.out.size⟩
    · have h := hown
      rw [show renF ns d j nl = upBl j ns1 d by unfold renF; rw [HF2.out.1, HNS1.out]]
      exact h
    · rcases e with e | e
      · omega
      · have := List.mem_singleton.1 e; have := HS10.out; omega
end Go.Proofs.YtakglldffpnlaaaGreatDoor.Rt
