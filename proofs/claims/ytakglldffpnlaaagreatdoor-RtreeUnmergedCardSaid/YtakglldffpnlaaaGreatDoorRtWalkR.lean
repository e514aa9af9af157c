/- Walks: Add, where the leaf goes in. -/
import Derived.Test.YtakglldffpnlaaaGreatDoorRtM4
namespace Go.Proofs.YtakglldffpnlaaaGreatDoor.Rt
set_option linter.all false
open Go.RowKit Iter
open Wr (Txt Any New)
attribute [local go_sem] Oper.semAt_some

/-- left in the ordinary way -/
def norm (P : Act → World → Prop) : Exit → Act → World → Prop
  | .normal, a, w => P a w
  | .ret, _, _ => False
  | .exit _, _, _ => False
  | .goto _, _, _ => False
  | .panic _, _, _ => False
  | .outgrown, _, _ => False
theorem norm_of {P : Act → World → Prop} {e : Exit} {a : Act} {w : World} (h : norm P e a w) : e = .normal ∧ P a w := by
  cases e <;> first | exact ⟨rfl, h⟩ | exact (h : False).elim
theorem AdI.setCell {D : Int} {A : Option Addr} {n c : Nat} {q : NdQ} {w W : World} (x : AdI D A n c q w W) {p : Addr} (hp : w.heap.size + 1 + 1 < p.block) (v : Value) : AdI D A n c q w (W.setCell p v) :=
  ⟨(Below.heap_setCell W p v _ (by omega)).trans x.tr, (Below.heap_setCell W p v _ (by omega)).trans x.lf, (Below.heap_setCell W p v _ (by omega)).trans x.out, x.bl.setCell (by omega) _⟩
set_option maxHeartbeats 8000000 in
set_option maxRecDepth 100000 in
theorem add_yesS (S0 : Nat → Prop) (d : Nat) (A : Option Addr) (n c : Nat) (ns : List Nd) (q : NdQ) (nl : Nd) (w : World) (hN : Nodes Any Any w A n c ns) (hq : NdIs Any w q nl) (hS0 : ∀ b, S0 b → b < w.heap.size) (hFN : ∀ ad, A = some ad → ∀ j q, j < n → NdAt w (ad.add (j * 6)) q → NdFar S0 q) (hFQ : NdFar S0 q) (hT : Tabs w) (hr : Right ns d) (hl : LeafR nl) (hm : addD ns d ≤ 6) :
    Calls Tryz.prog 9 #[.agg #[.int .i64 d, .slice A n c], .agg q.cs] w fun e w' => ∃ g, e = .returned (.tuple #[.agg #[.int .i64 (addD ns d : Nat), .slice (some ⟨g, 0, none⟩) (2 ^ (addD ns d + 1) - 1) (2 ^ (addD ns d + 1) - 1)], .int .i64 (firstB ns d : Nat), .int .i64 0]) ∧ (∃ bs, w.heap.size ≤ bs ∧ OwnN (fun b => S0 b ∨ (w.heap.size ≤ b ∧ b ≠ g)) w' bs g (2 ^ (addD ns d + 1) - 1) (2 ^ (addD ns d + 1) - 1) (addF ns d nl)) ∧ Below w.heap.size w w' := by
  have HFN : Hid (∀ W, Below w.heap.size w W → ∀ ad, A = some ad → ∀ j q, j < n → NdAt W (ad.add (j * 6)) q → NdFar S0 q) := Lib.hid fun W hb => hN.farT hFN hb
  have HQS := Lib.hid hFQ; have HS0 := Lib.hid hS0
  clear hFN hFQ hS0
  obtain ⟨W0, hW0, hI, hz⟩ := AdI.new d A n c q w
  have HI := Lib.hid hI
  have hN0 := hN.below hI.bl
  have hT0 := hT.below hI.bl
  have hd6 := hr.deep
  have hnn : n = 2 ^ (d + 1) - 1 := by rw [← hr.len, hN.len]
  obtain ⟨t0, t1⟩ := hI.tr.cs
  have C1 := Lib.hid (right_is d A n c ns true W0 hN0 hT0.sp (by simp; exact ⟨d, rfl, hr⟩))
  have hlf : leafF q.k q.n1 q.n2 q.n3 q.n4 q.n5 = true := (leafR_iff hq).2 hl
  have C2 := Lib.hid fun w => leaf_is q.k q.A1 q.n1 q.c1 q.A2 q.n2 q.c2 q.A3 q.n3 q.c3 q.A4 q.n4 q.c4 q.A5 q.n5 q.c5 true w hlf
  have HN := Lib.hid hN; have HQ := Lib.hid hq; have HR := Lib.hid hr
  have HF : Hid (∀ W, AdI d A n c q w W → Calls Tryz.prog 30 #[.agg #[.int .i64 d, .slice A n c]] W fun e w' => e = .returned (.int .i64 (firstB ns d : Nat)) ∧ Below W.heap.size W w') := Lib.hid fun W hb => firstBlank_is d A n c ns W (by omega) hnn (hN.below hb.bl)
  obtain ⟨k, A1, n1, c1, A2, n2, c2, A3, n3, c3, A4, n4, c4, A5, n5, c5⟩ := q
  dsimp only [NdQ.cs] at *
  clear hN0 hT0 hr hI hN hT hq hl hlf
  obtain ⟨f, hf⟩ : ∃ f, firstB ns d = f := ⟨_, rfl⟩
  obtain ⟨e, he⟩ : ∃ e, addD ns d = e := ⟨_, rfl⟩
  rw [hf] at HF
  rw [he] at hm
  rw [hf, he]
  have HE : Hid (firstB ns d = f ∧ addD ns d = e ∧ n = 2 ^ (d + 1) - 1 ∧ d ≤ 6 ∧ e ≤ 6) := Lib.hid ⟨hf, he, hnn, hd6, hm⟩
  clear hf he hnn hd6 hm
  refine callsIn_wide.1 (callsIn_of_wp_marks (n := 0) Tryz.func9 rfl trivial ?_ rfl)
  simp only [Tryz.ntmps9, List.size_toArray, List.length_cons, List.length_nil, Nat.reduceAdd, Nat.reduceSub, Array.replicate_succ, Array.replicate_zero, List.push_toArray, List.append_toArray, List.nil_append, List.cons_append]
  gi_wp2_with fail
  refine ⟨trivial, rfl, ?_⟩
  refine (callsIn_wide.2 C1.out).mono ?_
  rintro e' w2 ⟨rfl, hb2⟩
  have HI2 := Lib.hid (HI.out.below hb2)
  have HB2 := Lib.hid hb2
  obtain ⟨u0, u1, u2, u3, u4, u5⟩ := HI2.out.lf.cs
  clear hb2 t0 t1
  gi_wp2_with fail
  refine ⟨trivial, rfl, ?_⟩
  refine (callsIn_wide.2 (C2.out _)).mono ?_
  rintro e' w3 ⟨rfl, hb3⟩
  have HI3 := Lib.hid (HI2.out.below hb3)
  have HB3 := Lib.hid (HB2.out.trans (hb3.mono HB2.out.size))
  obtain ⟨t0, t1⟩ := HI3.out.tr.cs
  clear hb3 u0 u1 u2 u3 u4 u5
  gi_wp2_with fail
  refine wpIn_mono (Q := norm fun a W => ∃ b7, a = { tmps := #[.agg #[.int .i64 d, .slice A n c], .agg (ndc k A1 n1 c1 A2 n2 c2 A3 n3 c3 A4 n4 c4 A5 n5 c5), .pointer (some ⟨w.heap.size, 0, none⟩), .pointer (some ⟨w.heap.size + 1, 0, none⟩), .pointer (some ⟨w.heap.size + 1 + 1, 0, none⟩), .int .i64 0, .int .i64 0, .pointer (some ⟨b7, 0, none⟩), .int .i64 d, undef, undef, .agg #[.int .i64 d, .slice A n c], .bool true, .bool false, undef, .agg (ndc k A1 n1 c1 A2 n2 c2 A3 n3 c3 A4 n4 c4 A5 n5 c5), .bool true, .bool false, undef, .agg #[.int .i64 d, .slice A n c], .int .i64 f, .pointer (some ⟨w.heap.size, 0, none⟩), .int .i64 d, undef, undef, undef, undef, undef, undef, undef, undef, undef, undef, undef, undef, undef, undef, undef, undef, undef, undef, undef, undef, undef, undef, undef, undef, undef, undef, undef, undef, undef, undef, undef, undef, undef, undef, undef, undef, undef, undef], defers := [] } ∧ Hid (AdI d A n c { k := k, A1 := A1, n1 := n1, c1 := c1, A2 := A2, n2 := n2, c2 := c2, A3 := A3, n3 := n3, c3 := c3, A4 := A4, n4 := n4, c4 := c4, A5 := A5, n5 := n5, c5 := c5 } w W) ∧ Hid (w.heap.size + 1 + 1 < b7 ∧ W.rowIs b7 3 1 (fun _ => .int .i64 f))) ?cut ?rest
  case cut =>
    refine region_drawn_in (plain_wide _) (by kernel_rfl) (by kernel_rfl) ?_
    have HS : Hid (AdI d A n c { k := k, A1 := A1, n1 := n1, c1 := c1, A2 := A2, n2 := n2, c2 := c2, A3 := A3, n3 := n3, c3 := c3, A4 := A4, n4 := n4, c4 := c4, A5 := A5, n5 := n5, c5 := c5 } w w3.drew) := Lib.hid (HI3.out.below ((Below.refl _ _).drew))
    generalize w3.drew = wd at *
    clear t0 t1 HI3 HB3
    refine wpAny_of_held (S := fun W => AdI d A n c { k := k, A1 := A1, n1 := n1, c1 := c1, A2 := A2, n2 := n2, c2 := c2, A3 := A3, n3 := n3, c3 := c3, A4 := A4, n4 := n4, c4 := c4, A5 := A5, n5 := n5, c5 := c5 } w W) _ _ _ _ ?_
    refine wpAnyH_take (i := 0) (v := ?vt1) rfl (by kernel_rfl) (by kernel_rfl) (by kernel_rfl) (fun _ _ _ h => h) (Or.inl ⟨by rfl, ?yt1⟩) HS.out ?rt1
    case yt1 => (intro w' hSw; obtain ⟨t0, t1⟩ := hSw.tr.cs; clear hSw; go_simp; try with_reducible rfl)
    simp only [List.getElem_toArray, List.getElem_cons_succ, List.getElem_cons_zero, Act.put, List.setIfInBounds_toArray, List.set_cons_zero, List.set_cons_succ]
    refine wpAnyH_take (i := 2) (v := ?vt2) rfl (by kernel_rfl) (by kernel_rfl) (by kernel_rfl) (fun _ _ _ h => h) (Or.inl ⟨by rfl, ?yt2⟩) HS.out ?rt2
    case yt2 => (intro w' hSw; clear hSw; go_simp; try with_reducible rfl)
    simp only [List.getElem_toArray, List.getElem_cons_succ, List.getElem_cons_zero, Act.put, List.setIfInBounds_toArray, List.set_cons_zero, List.set_cons_succ]
    refine wpAnyH_take (i := 3) (v := ?vt3) rfl (by kernel_rfl) (by kernel_rfl) (by kernel_rfl) (fun _ _ _ h => h) (Or.inl ⟨by rfl, ?yt3⟩) HS.out ?rt3
    case yt3 => (intro w' hSw; obtain ⟨t0, t1⟩ := hSw.tr.cs; clear hSw; go_simp; try with_reducible rfl)
    simp only [List.getElem_toArray, List.getElem_cons_succ, List.getElem_cons_zero, Act.put, List.setIfInBounds_toArray, List.set_cons_zero, List.set_cons_succ]
    refine wpAnyH_ready (rs := [1, 4]) (by kernel_rfl) (by simp) ?_
    refine AllReadyH.cons rfl (fun K' hK => ?_) (AllReadyH.cons rfl (fun K' hK => ?_) AllReadyH.nil)
    · skip
      simp only [List.getElem_toArray, List.getElem_cons_succ, List.getElem_cons_zero]
      go_simp
      refine (HF.out _ HS.out).mono ?_
      rintro e' w4 ⟨rfl, hb4⟩
      have HS1 := Lib.hid (HS.out.below hb4)
      refine hK.out _ _ HS1.out (fun _ => ?_)
      clear hK
      try simp only [List.getElem_toArray, List.getElem_cons_succ, List.getElem_cons_zero, Act.put, List.setIfInBounds_toArray, List.set_cons_zero, List.set_cons_succ]
      refine wpAnyH_ready (rs := [4]) (by kernel_rfl) (by simp) ?_
      refine AllReadyH.cons rfl (fun K' hK => ?_) AllReadyH.nil
      simp only [List.getElem_toArray, List.getElem_cons_succ, List.getElem_cons_zero]
      go_simp
      have r7 := rowIs_new1 w4 (.int .i64 0) 3
      have b7 := below_one w4 (.cells #[.int .i64 0] 3)
      obtain ⟨w5, hw5⟩ : ∃ w5, w4.alloc (.cells #[.int .i64 0] 3) = w5 := ⟨_, rfl⟩
      rw [hw5] at r7 b7
      rw [hw5]
      have hb77 : w.heap.size + 1 + 1 < w4.heap.size := by have := (Array.getElem?_eq_some_iff.1 HS1.out.out).1; omega
      have HR7 := Lib.hid r7
      have HS2 := Lib.hid (HS1.out.below b7)
      clear hw5 r7 b7
      refine hK.out _ _ HS2.out (fun _ => ?_)
      clear hK
      try simp only [List.getElem_toArray, List.getElem_cons_succ, List.getElem_cons_zero, Act.put, List.setIfInBounds_toArray, List.set_cons_zero, List.set_cons_succ]
      refine wpAnyH_ready (rs := [5]) (by kernel_rfl) (by simp) ?_
      refine AllReadyH.cons rfl (fun K' hK => ?_) AllReadyH.nil
      simp only [List.getElem_toArray, List.getElem_cons_succ, List.getElem_cons_zero]
      have c7 := HR7.out.cell (i := 0) (by omega)
      have f7 := HR7.out.frozen 0
      go_simp
      have HRB : Hid ((w5.setCell ⟨w4.heap.size, 0, none⟩ (.int .i64 f)).rowIs w4.heap.size 3 1 (fun _ => .int .i64 f)) := Lib.hid ((HR7.out.set 0 _).congr fun i hi => by
        obtain rfl : i = 0 := (by omega)
        rfl)
      have HS3 : Hid (AdI d A n c { k := k, A1 := A1, n1 := n1, c1 := c1, A2 := A2, n2 := n2, c2 := c2, A3 := A3, n3 := n3, c3 := c3, A4 := A4, n4 := n4, c4 := c4, A5 := A5, n5 := n5, c5 := c5 } w (w5.setCell ⟨w4.heap.size, 0, none⟩ (.int .i64 f))) := Lib.hid (HS2.out.setCell (by omega) _)
      refine hK.out _ _ HS3.out (fun _ => ?_)
      clear hK
      try simp only [List.getElem_toArray, List.getElem_cons_succ, List.getElem_cons_zero, Act.put, List.setIfInBounds_toArray, List.set_cons_zero, List.set_cons_succ]
      refine wpAnyH_take (i := 6) (v := ?vt4) rfl (by kernel_rfl) (by kernel_rfl) (by kernel_rfl) (fun _ _ _ h => h) (Or.inl ⟨by rfl, ?yt4⟩) HS3.out ?rt4
      case yt4 => (intro w' hSw; clear hSw; go_simp; try with_reducible rfl)
      simp only [List.getElem_toArray, List.getElem_cons_succ, List.getElem_cons_zero, Act.put, List.setIfInBounds_toArray, List.set_cons_zero, List.set_cons_succ]
      refine wpAnyH_done (by kernel_rfl) ?_ _
      exact ⟨w4.heap.size, rfl, HS3, Lib.hid ⟨by omega, HRB.out⟩⟩
    · skip
      simp only [List.getElem_toArray, List.getElem_cons_succ, List.getElem_cons_zero]
      go_simp
      have r7 := rowIs_new1 wd (.int .i64 0) 3
      have b7 := below_one wd (.cells #[.int .i64 0] 3)
      obtain ⟨w5, hw5⟩ : ∃ w5, wd.alloc (.cells #[.int .i64 0] 3) = w5 := ⟨_, rfl⟩
      rw [hw5] at r7 b7
      rw [hw5]
      have hb77 : w.heap.size + 1 + 1 < wd.heap.size := by have := (Array.getElem?_eq_some_iff.1 HS.out.out).1; omega
      have HR7 := Lib.hid r7
      have HS2 := Lib.hid (HS.out.below b7)
      clear hw5 r7 b7
      refine hK.out _ _ HS2.out (fun _ => ?_)
      clear hK
      try simp only [List.getElem_toArray, List.getElem_cons_succ, List.getElem_cons_zero, Act.put, List.setIfInBounds_toArray, List.set_cons_zero, List.set_cons_succ]
      refine wpAnyH_ready (rs := [1]) (by kernel_rfl) (by simp) ?_
      refine AllReadyH.cons rfl (fun K' hK => ?_) AllReadyH.nil
      simp only [List.getElem_toArray, List.getElem_cons_succ, List.getElem_cons_zero]
      go_simp
      refine (HF.out _ HS2.out).mono ?_
      rintro e' w4 ⟨rfl, hb4⟩
      have HS3 := Lib.hid (HS2.out.below hb4)
      have HR8 := Lib.hid (HR7.out.of_block (hb4.block _ HR7.out.lt))
      clear hb4
      refine hK.out _ _ HS3.out (fun _ => ?_)
      clear hK
      try simp only [List.getElem_toArray, List.getElem_cons_succ, List.getElem_cons_zero, Act.put, List.setIfInBounds_toArray, List.set_cons_zero, List.set_cons_succ]
      refine wpAnyH_ready (rs := [5]) (by kernel_rfl) (by simp) ?_
      refine AllReadyH.cons rfl (fun K' hK => ?_) AllReadyH.nil
      simp only [List.getElem_toArray, List.getElem_cons_succ, List.getElem_cons_zero]
      have c7 := HR8.out.cell (i := 0) (by omega)
      have f7 := HR8.out.frozen 0
      go_simp
      have HRB : Hid ((w4.setCell ⟨wd.heap.size, 0, none⟩ (.int .i64 f)).rowIs wd.heap.size 3 1 (fun _ => .int .i64 f)) := Lib.hid ((HR8.out.set 0 _).congr fun i hi => by
        obtain rfl : i = 0 := (by omega)
        rfl)
      have HS4 : Hid (AdI d A n c { k := k, A1 := A1, n1 := n1, c1 := c1, A2 := A2, n2 := n2, c2 := c2, A3 := A3, n3 := n3, c3 := c3, A4 := A4, n4 := n4, c4 := c4, A5 := A5, n5 := n5, c5 := c5 } w (w4.setCell ⟨wd.heap.size, 0, none⟩ (.int .i64 f))) := Lib.hid (HS3.out.setCell (by omega) _)
      refine hK.out _ _ HS4.out (fun _ => ?_)
      clear hK
      try simp only [List.getElem_toArray, List.getElem_cons_succ, List.getElem_cons_zero, Act.put, List.setIfInBounds_toArray, List.set_cons_zero, List.set_cons_succ]
      refine wpAnyH_take (i := 6) (v := ?vt5) rfl (by kernel_rfl) (by kernel_rfl) (by kernel_rfl) (fun _ _ _ h => h) (Or.inl ⟨by rfl, ?yt5⟩) HS4.out ?rt5
      case yt5 => (intro w' hSw; clear hSw; go_simp; try with_reducible rfl)
      simp only [List.getElem_toArray, List.getElem_cons_succ, List.getElem_cons_zero, Act.put, List.setIfInBounds_toArray, List.set_cons_zero, List.set_cons_succ]
      refine wpAnyH_done (by kernel_rfl) ?_ _
      exact ⟨wd.heap.size, rfl, HS4, Lib.hid ⟨by omega, HRB.out⟩⟩
  case rest =>
    rintro ex a9 W hnorm
    obtain ⟨rfl, b7, rfl, HA, HRW⟩ := norm_of hnorm
    clear hnorm
    clear t0 t1 HI3 HB3
    dsimp only [Exit.then]
    rename_i K hK
    refine hK _ _ ?_
    clear hK K
    refine wpIn_seq ?_
    obtain ⟨m, hm⟩ : ∃ m, 2 ^ d = m := ⟨_, rfl⟩
    have HL : Hid (∀ W, Calls Tryz.prog 31 #[.int .i64 (d : Int)] W fun e w' => e = .returned (.int .i64 (m : Int)) ∧ W = w') := Lib.hid fun W => by rw [← hm]; exact leaves_is d W (by have := HE.out; omega)
    have HM : Hid (d ≤ 6 ∧ f ≤ m ∧ m ≤ 64 ∧ (f = m → e = d + 1) ∧ (f ≠ m → e = d)) := Lib.hid (by
      obtain ⟨h1, h2, h3, h4, h5⟩ := HE.out
      have h6 := (firstB_is ns d).1
      have h7 : 2 ^ d ≤ 2 ^ 6 := Nat.pow_le_pow_right (by decide) h4
      unfold addD at h2
      rw [h1, hm] at h6 h2
      rw [hm] at h7
      refine ⟨h4, h6, h7, fun h => ?_, fun h => ?_⟩
      · rw [if_pos h] at h2; exact h2.symm
      · rw [if_neg h] at h2; exact h2.symm)
    clear hm
    refine wpIn_mono (Q := norm fun a W => ∃ v26 v27 v28, a = { tmps := #[.agg #[.int .i64 d, .slice A n c], .agg (ndc k A1 n1 c1 A2 n2 c2 A3 n3 c3 A4 n4 c4 A5 n5 c5), .pointer (some ⟨w.heap.size, 0, none⟩), .pointer (some ⟨w.heap.size + 1, 0, none⟩), .pointer (some ⟨w.heap.size + 1 + 1, 0, none⟩), .int .i64 0, .int .i64 0, .pointer (some ⟨b7, 0, none⟩), .int .i64 e, undef, undef, .agg #[.int .i64 d, .slice A n c], .bool true, .bool false, undef, .agg (ndc k A1 n1 c1 A2 n2 c2 A3 n3 c3 A4 n4 c4 A5 n5 c5), .bool true, .bool false, undef, .agg #[.int .i64 d, .slice A n c], .int .i64 f, .pointer (some ⟨w.heap.size, 0, none⟩), .int .i64 d, .int .i64 f, .int .i64 d, .int .i64 m, v26, v27, v28, undef, undef, undef, undef, undef, undef, undef, undef, undef, undef, undef, undef, undef, undef, undef, undef, undef, undef, undef, undef, undef, undef, undef, undef, undef, undef, undef, undef, undef, undef, undef, undef], defers := [] } ∧ Hid (AdI d A n c { k := k, A1 := A1, n1 := n1, c1 := c1, A2 := A2, n2 := n2, c2 := c2, A3 := A3, n3 := n3, c3 := c3, A4 := A4, n4 := n4, c4 := c4, A5 := A5, n5 := n5, c5 := c5 } w W) ∧ Hid (w.heap.size + 1 + 1 < b7 ∧ W.rowIs b7 3 1 (fun _ => .int .i64 f))) ?cut6 ?rest6
    case cut6 =>
      have HA' : Hid (AdI d A n c { k := k, A1 := A1, n1 := n1, c1 := c1, A2 := A2, n2 := n2, c2 := c2, A3 := A3, n3 := n3, c3 := c3, A4 := A4, n4 := n4, c4 := c4, A5 := A5, n5 := n5, c5 := c5 } w W.drew) := Lib.hid (HA.out.below ((Below.refl _ _).drew))
      have HRW' : Hid (w.heap.size + 1 + 1 < b7 ∧ W.drew.rowIs b7 3 1 (fun _ => .int .i64 f)) := HRW
      by_cases y : f = m
      · subst y
        have hei : (d : Int) + 1 = (e : Int) := by have := HM.out.2.2.2.1 rfl; omega
        have c7 := HRW.out.2.cell (i := 0) (by omega)
        have hd6 := HM.out.1
        gi_wp2_with fail
        gi_region_with (refine ⟨trivial, rfl, (callsIn_wide.2 (HL.out _)).mono ?_⟩; rintro e' w' ⟨rfl, rfl⟩)
        all_goals gi_wp2
        all_goals exact ⟨⟨.bool true, .int .i64 d, .int .i64 e, rfl⟩, HA', HRW'⟩
      · have yy : ¬ (f : Int) = (m : Int) := fun h => y (by omega)
        have he1 := HM.out.2.2.2.2 y
        subst he1
        have c7 := HRW.out.2.cell (i := 0) (by omega)
        gi_wp2_with fail
        gi_region_with (refine ⟨trivial, rfl, (callsIn_wide.2 (HL.out _)).mono ?_⟩; rintro e' w' ⟨rfl, rfl⟩)
        all_goals gi_wp2
        all_goals exact ⟨⟨_, _, _, rfl⟩, HA', HRW'⟩
    case rest6 =>
      rintro ex a9 W6 hnorm
      obtain ⟨rfl, v26, v27, v28, rfl, HA6, HR6⟩ := norm_of hnorm
      clear hnorm
      clear HA HRW
      dsimp only [Exit.then]
      have CC : Hid (∀ W, AdI d A n c { k := k, A1 := A1, n1 := n1, c1 := c1, A2 := A2, n2 := n2, c2 := c2, A3 := A3, n3 := n3, c3 := c3, A4 := A4, n4 := n4, c4 := c4, A5 := A5, n5 := n5, c5 := c5 } w W → Calls Tryz.prog 32 #[.agg #[.int .i64 d, .slice A n c], .int .i64 e] W fun e' w' => ∃ g, e' = .returned (.agg #[.int .i64 e, .slice (some ⟨g, 0, none⟩) (2 ^ (e + 1) - 1) (2 ^ (e + 1) - 1)]) ∧ OwnN S0 w' W.heap.size g (2 ^ (e + 1) - 1) (2 ^ (e + 1) - 1) (grow ns e) ∧ Below W.heap.size W w') := Lib.hid fun W h => copied_isB S0 d e A n c ns W (fun b hb => Nat.lt_of_lt_of_le (HS0.out b hb) h.bl.size) (HFN.out W h.bl) (by have := HM.out; by_cases y : f = m; { have := this.2.2.2.1 y; omega }; { have := this.2.2.2.2 y; omega }) (by have := HE.out; omega) HE.out.2.2.1 (HN.out.below h.bl)
      have ye : ¬ (6 : Int) < (e : Int) := by have := HE.out; omega
      obtain ⟨t0, t1⟩ := HA6.out.tr.cs
      obtain ⟨N, hNe⟩ : ∃ N, 2 ^ (e + 1) - 1 = N := ⟨_, rfl⟩
      rw [hNe] at CC
      have HNN : Hid (2 ^ (e + 1) - 1 = N) := Lib.hid hNe
      clear hNe
      gi_wp2_with fail
      refine ⟨trivial, rfl, (callsIn_wide.2 (CC.out _ HA6.out)).mono ?_⟩
      rintro e' w7 ⟨g, rfl, ho7, hb7⟩
      have HO7 := Lib.hid ho7; have HB7 := Lib.hid hb7
      have HA7 := Lib.hid (HA6.out.below hb7)
      have HR7 : Hid (w.heap.size + 1 + 1 < b7 ∧ w7.rowIs b7 3 1 (fun _ => .int .i64 f)) := Lib.hid ⟨HR6.out.1, HR6.out.2.of_block (hb7.block _ HR6.out.2.lt)⟩
      obtain ⟨w8, hw8⟩ : ∃ w8, w7.alloc (.cells #[.int .i64 e, .slice (some ⟨g, 0, none⟩) N N] 24) = w8 := ⟨_, rfl⟩
      have hb8 : Below w7.heap.size w7 w8 := by rw [← hw8]; exact below_one _ _
      have HTR8 : Hid (TrB e (some ⟨g, 0, none⟩) N N w8 w7.heap.size) := Lib.hid (by rw [← hw8]; exact TrB.new _ _ _ _ _)
      have hs8 : w8.heap.size = w7.heap.size + 1 := by rw [← hw8, World.size_alloc]
      have HO8 := Lib.hid (ho7.below hb8)
      have HA8 := Lib.hid (HA7.out.below hb8)
      have HR8 : Hid (w.heap.size + 1 + 1 < b7 ∧ w8.rowIs b7 3 1 (fun _ => .int .i64 f)) := Lib.hid ⟨HR7.out.1, HR7.out.2.of_block (hb8.block _ HR7.out.2.lt)⟩
      have HG : Hid (W6.heap.size ≤ g ∧ g < w7.heap.size ∧ b7 < W6.heap.size ∧ W6.heap.size ≤ w7.heap.size) := Lib.hid ⟨ho7.lt.1, ho7.lt.2, HR6.out.2.lt, hb7.size⟩
      obtain ⟨f2, hf2⟩ : ∃ f2, 2 * f = f2 := ⟨_, rfl⟩
      have x2 : (2 : Int) * (f : Int) = (f2 : Int) := by omega
      have HF2 : Hid (2 * f = f2 ∧ f2 < N ∧ N ≤ 127) := Lib.hid (by
        obtain ⟨h1, h2, h3, h4, h5⟩ := HE.out
        have h6 := (addD_le (ns := ns) (d := d)).2.2
        rw [h1, h2] at h6
        have h7 : 2 ^ (e + 1) = 2 * 2 ^ e := by rw [Nat.pow_succ]; omega
        have h8 : 2 ^ e ≤ 2 ^ 6 := Nat.pow_le_pow_right (by decide) h5
        have := HNN.out
        exact ⟨hf2, by omega, by omega⟩)
      have hfN : (f2 : Int) < (N : Int) := by have := HF2.out; omega
      have hf127 : f2 ≤ 127 := by have := HF2.out; omega
      have hf64 : f ≤ 64 := by omega
      have c7 := HR8.out.2.cell (i := 0) (by omega)
      obtain ⟨t0, t1⟩ := HTR8.out.cs
      obtain ⟨u0, u1, u2, u3, u4, u5⟩ := HA8.out.lf.cs
      dsimp only at u0 u1 u2 u3 u4 u5
      have HQ8 : Hid (NdIs Any w8 { k := k, A1 := A1, n1 := n1, c1 := c1, A2 := A2, n2 := n2, c2 := c2, A3 := A3, n3 := n3, c3 := c3, A4 := A4, n4 := n4, c4 := c4, A5 := A5, n5 := n5, c5 := c5 } nl) := Lib.hid (HQ.out.below HA8.out.bl)
      have HQF : Hid (NdFar S0 { k := k, A1 := A1, n1 := n1, c1 := c1, A2 := A2, n2 := n2, c2 := c2, A3 := A3, n3 := n3, c3 := c3, A4 := A4, n4 := n4, c4 := c4, A5 := A5, n5 := n5, c5 := c5 }) := Lib.hid HQS.out
      clear ho7 hb7 hb8 hf2
      gi_wp2_with (refine wpListIn_of_wp (plain_wide _) rfl (fun c e => by cases e) (fun K hK => wp_store_node (.tmp 40) (.tmp 39) rfl S0 W6.heap.size g N N (grow ns e) f2 { k := k, A1 := A1, n1 := n1, c1 := c1, A2 := A2, n2 := n2, c2 := c2, A3 := A3, n3 := n3, c3 := c3, A4 := A4, n4 := n4, c4 := c4, A5 := A5, n5 := n5, c5 := c5 } nl rfl rfl HO8.out HF2.out.2.1 HQ8.out HQF.out ?_))
      intro w9 ho9 hg9 hs9
      have HO9 := Lib.hid ho9; have HG9 := Lib.hid hg9
      have HG' := HG.out
      have c7' : w9.cell? ⟨b7, 0, none⟩ = some (.int .i64 f) := (World.cell?_of_block (hg9.block b7 (by omega) (by intro e; injection e; omega))).trans c7
      have t0' : w9.cell? ⟨w7.heap.size, 0, none⟩ = some (.int .i64 e) := (World.cell?_of_block (hg9.block w7.heap.size (by omega) (by intro e; injection e; omega))).trans t0
      have t1' : w9.cell? ⟨w7.heap.size, 1, none⟩ = some (.slice (some ⟨g, 0, none⟩) N N) := (World.cell?_of_block (hg9.block w7.heap.size (by omega) (by intro e; injection e; omega))).trans t1
      have CA := Lib.hid (above_any e f (some ⟨g, 0, none⟩) N N w9)
      have HS9 : Hid (w9.heap.size = w7.heap.size + 1) := Lib.hid hs9
      clear ho9 hg9 hs9 t0 t1 c7 u0 u1 u2 u3 u4 u5 hw8
      refine hK _ _ ?_
      clear hK K
      gi_wp2_with fail
      refine ⟨trivial, rfl, (callsIn_wide.2 CA.out).mono ?_⟩
      rintro e' w10 ⟨rfl, hw10⟩
      have HW10 := Lib.hid hw10
      clear hw10 t0' t1' c7'
      gi_wp2_with fail
      have hz9 := HS9.out
      have s10 : w10.heap.size = w9.heap.size + 1 + 1 := by rw [HW10.out]; simp
      have hb10 : Below w9.heap.size w9 w10 := by rw [HW10.out]; exact ((Below.refl _ w9).alloc (Nat.le_refl _) _).alloc (by simp) _
      have ht10 : TrB e (some ⟨g, 0, none⟩) N N w10 w9.heap.size := by rw [HW10.out]; exact (TrB.new _ _ _ _ w9).below (below_one _ _) (by simp)
      have hc10 : w10.cell? ⟨w9.heap.size + 1, 0, none⟩ = some (.int .i64 f) := by
        have h := heap_alloc_last (w9.alloc (.cells #[.int .i64 e, .slice (some ⟨g, 0, none⟩) N N] 24)) (.cells #[.int .i64 f] 3)
        rw [World.size_alloc, ← HW10.out] at h
        exact cell_of_row w10 _ 0 _ _ _ h
      have hle := HA6.out.bl.size
      have HS10 : Hid (w10.heap.size = w9.heap.size + 1 + 1 ∧ w9.heap.size = w7.heap.size + 1) := Lib.hid ⟨s10, hz9⟩
      have HB9 : Hid (Below w.heap.size w w9) := Lib.hid (Wr.below_of_only HA8.out.bl HG9.out (by omega))
      have HB10 : Hid (Below w.heap.size w w10) := Lib.hid (HB9.out.trans (hb10.mono (by omega)))
      have HR10 : Hid (w10.rowIs b7 3 1 (fun _ => .int .i64 f)) := Lib.hid ((HR8.out.2.of_block (HG9.out.block b7 (by omega) (by intro e; injection e; omega))).of_block (hb10.block _ (by omega)))
      have HTR10 : Hid (TrB e (some ⟨g, 0, none⟩) N N w10 w7.heap.size) := Lib.hid ((hb10.block _ (by omega)).trans ((HG9.out.block _ (by omega) (by intro e; injection e; omega)).trans HTR8.out))
      have HOUT10 : Hid (w10.heap[w.heap.size + 1 + 1]? = some (.cells zt 24 (0, 0))) := Lib.hid (by
        have h9 := (Array.getElem?_eq_some_iff.1 HA6.out.out).1
        exact (hb10.block _ (by omega)).trans ((HG9.out.block _ (by omega) (by intro e; injection e; omega)).trans HA8.out.out))
      have HOUTL : Hid (w.heap.size + 1 + 1 < W6.heap.size) := Lib.hid (Array.getElem?_eq_some_iff.1 HA6.out.out).1
      have HP : Hid (∀ k9, k9 < e → idx (k9 + 1) (f / 2 ^ (k9 + 1)) < N ∧ nd (upUn f ((grow ns e).set f2 nl) k9) (idx (k9 + 1) (f / 2 ^ (k9 + 1))) = nd ns (idx (k9 + 1) (f / 2 ^ (k9 + 1))) ∧ ((nd ns (idx (k9 + 1) (f / 2 ^ (k9 + 1)))).kind ≠ 0 → Rise (-1) (nd ns (idx (k9 + 1) (f / 2 ^ (k9 + 1)))).un ∧ ¬ (f : Int) ∈ (nd ns (idx (k9 + 1) (f / 2 ^ (k9 + 1)))).un ∧ (nd ns (idx (k9 + 1) (f / 2 ^ (k9 + 1)))).un.length ≤ 64)) := Lib.hid fun k9 hk9 => by
        obtain ⟨h1, h2, h3, h4, h5⟩ := HE.out
        have h6 := (addD_le (ns := ns) (d := d)).2.2
        rw [h1, h2] at h6
        refine ⟨?_, ?_, fun hk => HR.out.un_free _ _ f (by rw [← h1]; exact free_first) hk⟩
        · rw [← HNN.out]
          exact idx_lt (by omega) (up_lt h6 (by omega))
        · rw [← HF2.out.1]
          exact add_above ns e f k9 nl k9 _ (Nat.le_refl _)
      have HFE : Hid (f < 2 ^ e ∧ e ≤ 6) := Lib.hid (by
        obtain ⟨h1, h2, h3, h4, h5⟩ := HE.out
        have h6 := (addD_le (ns := ns) (d := d)).2.2
        rw [h1, h2] at h6
        exact ⟨h6, h5⟩)
      obtain ⟨ns1, hns1⟩ : ∃ ns1, (grow ns e).set f2 nl = ns1 := ⟨_, rfl⟩
      have hI0 : AddI W6.heap.size S0 g N f w10 ns1 0 (fun b => b = g) w10 := ⟨(by
        have h := (HO9.out.below hb10).mono (S' := fun b => S0 b ∨ (b = g ∧ b ≠ g)) (fun b hb => .inl hb) (fun b hb => by rcases hb with h | h; { have := HS0.out _ h; omega }; { exact h.2 })
        rw [hns1] at h
        exact h), fun b e => ⟨.inl e, by omega⟩, rfl, Kept.refl _ _⟩
      have HNS1 := Lib.hid hns1
      rw [hns1] at HP
      clear hns1
      have hAH := above_hands (w9.heap.size + 1) w9.heap.size f e g N N (fun b => (b = g) ∨ b = w10.heap.size ∨ b = w10.heap.size + 1) w10 (by have := HFE.out; omega) HFE.out.1 HNN.out.symm (fun b hb => by omega) hc10 ht10
      refine wp_range_d (P := Tryz.prog) (gf := 60) (lb := #[.pointer (some ⟨w9.heap.size + 1, 0, none⟩), .pointer (some ⟨w9.heap.size, 0, none⟩)]) (cnt := e) (val := fun k9 => #[.pointer (some ⟨g, idx (k9 + 1) (f / 2 ^ (k9 + 1)) * 6, none⟩)]) (a₁ := fun k9 => { tmps := #[.agg #[.int .i64 d, .slice A n c], .agg (ndc k A1 n1 c1 A2 n2 c2 A3 n3 c3 A4 n4 c4 A5 n5 c5), .pointer (some ⟨w.heap.size, 0, none⟩), .pointer (some ⟨w.heap.size + 1, 0, none⟩), .pointer (some ⟨w.heap.size + 1 + 1, 0, none⟩), .int .i64 0, .int .i64 0, .pointer (some ⟨b7, 0, none⟩), .int .i64 e, .pointer (some ⟨w7.heap.size, 0, none⟩), .pointer (some ⟨g, idx (k9 + 1) (f / 2 ^ (k9 + 1)) * 6, none⟩), .agg #[.int .i64 d, .slice A n c], .bool true, .bool false, undef, .agg (ndc k A1 n1 c1 A2 n2 c2 A3 n3 c3 A4 n4 c4 A5 n5 c5), .bool true, .bool false, undef, .agg #[.int .i64 d, .slice A n c], .int .i64 f, .pointer (some ⟨w.heap.size, 0, none⟩), .int .i64 d, .int .i64 f, .int .i64 d, .int .i64 m, v26, v27, v28, .int .i64 e, .bool false, undef, .agg #[.int .i64 d, .slice A n c], .int .i64 e, .agg #[.int .i64 e, .slice (some ⟨g, 0, none⟩) N N], .pointer (some ⟨w7.heap.size, 1, none⟩), .slice (some ⟨g, 0, none⟩) N N, .int .i64 f, .int .i64 f2, .agg (ndc k A1 n1 c1 A2 n2 c2 A3 n3 c3 A4 n4 c4 A5 n5 c5), .pointer (some ⟨g, f2 * 6, none⟩), .agg #[.int .i64 e, .slice (some ⟨g, 0, none⟩) N N], .int .i64 f, .func (.func 60) #[] #[.pointer (some ⟨w9.heap.size + 1, 0, none⟩), .pointer (some ⟨w9.heap.size, 0, none⟩)], .pointer (some ⟨g, idx (k9 + 1) (f / 2 ^ (k9 + 1)) * 6, none⟩), undef, undef, undef, undef, undef, undef, undef, undef, undef, undef, undef, undef, undef, undef, undef, undef], defers := [] }) rfl (enters_of Tryz.func60 (by kernel_rfl) rfl)
        (fun b => b = g) (fun b e => by omega) hAH
        (fun k => rfl) (AddI W6.heap.size S0 g N f w10 ns1) (fun x k Y W => False)
        (fun k Y A B h hk => h.kept hk (by omega) (fun b hb => by have := HS0.out b hb; omega)) (fun x k Y A B h hk => h) hI0 ?assign ?body ?done ?stop
      case assign =>
        intro l k9 W K hK
        clear hz9 s10
        gi_wp2
        exact hK
      case stop =>
        intro x k9 Y W hk h hD hYN
        exact h.elim
      case body =>
        intro l k9 Y W hk hszW hYN hI
        obtain ⟨hlt, hnd, hgood⟩ := HP.out k9 hk
        have hWB : W6.heap.size ≤ W.heap.size := by omega
        have HSAME := Lib.hid (hI.same (k := k9))
        have HPUT : Hid (∀ (Wc : World) (A9 : Option Addr) (m9 c9 : Nat), (nd ns (idx (k9 + 1) (f / 2 ^ (k9 + 1)))).kind ≠ 0 → Below W.heap.size W Wc → Ints (New W.heap.size Wc) Wc A9 m9 c9 (ins f (nd ns (idx (k9 + 1) (f / 2 ^ (k9 + 1)))).un) → AddI W6.heap.size S0 g N f w10 ns1 (k9 + 1) (fun b => Y b ∨ (W.heap.size ≤ b ∧ b < Wc.heap.size)) (Wc.setCell ⟨g, idx (k9 + 1) (f / 2 ^ (k9 + 1)) * 6 + 5, none⟩ (.slice A9 m9 c9))) := Lib.hid fun Wc A9 m9 c9 hk0 hb hi9 =>
          hI.put (by rw [hnd]; exact hk0) hlt hb (by rw [hnd]; exact hi9) (fun b hb => by have := HS0.out b hb; omega)
        rw [hnd] at HSAME
        obtain ⟨q9, hat, his, _⟩ := hI.own.at _ hlt
        rw [hnd] at his
        have hfz := hI.own.frozen (idx (k9 + 1) (f / 2 ^ (k9 + 1)) * 6 + 5)
        have HYX := Lib.hid hI.yx; have HYG := Lib.hid hI.yg
        have hcc7 : W.cell? ⟨b7, 0, none⟩ = some (.int .i64 f) := (World.cell?_of_block (hI.kx.block b7 (by omega) (fun e => by omega))).trans (HR10.out.cell (i := 0) (by omega))
        have hgW := hI.own.lt.2
        obtain ⟨nn, hnn⟩ : ∃ nn, nd ns (idx (k9 + 1) (f / 2 ^ (k9 + 1))) = nn := ⟨_, rfl⟩
        rw [hnn] at HSAME HPUT his hgood
        obtain ⟨a, ha⟩ : ∃ a, idx (k9 + 1) (f / 2 ^ (k9 + 1)) = a := ⟨_, rfl⟩
        rw [ha] at HPUT hat hfz hlt
        simp only [ha]
        obtain ⟨v0, _, _, _, _, v5⟩ := hat.cells
        dsimp only at v0 v5
        clear hI hat hnn ha hnd hYN hszW hk
        have hq9 := his.k
        have HUN := Lib.hid his.un
        obtain ⟨k', A1', n1', c1', A2', n2', c2', A3', n3', c3', A4', n4', c4', U9, m9, cu9⟩ := q9
        dsimp only at v0 v5 hq9 HUN
        have HV5 := Lib.hid v5; have HFZ := Lib.hid hfz; have HC7 := Lib.hid hcc7
        clear hz9 s10 his
        by_cases hk0 : nn.kind = 0
        · have yk : k' = 0 := by omega
          subst yk
          have HK0 := Lib.hid hk0
          clear hgood v5 hfz hcc7 hq9 hk0
          gi_wp2
          exact ⟨Y, fun b hb => ⟨.inl hb, (HYX.out b hb).2⟩, Kept.refl _ _, HSAME.out HK0.out⟩
        · have yk : ¬ k' = 0 := by omega
          obtain ⟨hr1, hr2, hr3⟩ := hgood hk0
          have hm9 : m9 ≤ 1000 := by have := HUN.out.len; omega
          have CW : Hid (∀ w', Below W.heap.size W w' → Calls Tryz.prog 34 #[.slice U9 m9 cu9, .int .i64 f] w' (ToldI (ins f nn.un) w')) := Lib.hid fun w' hb => withLeaf_is U9 m9 cu9 nn.un f w' (HUN.out.below hb) hr1 hr2 hm9
          have HK0 := Lib.hid hk0
          clear hgood hr1 hr2 hr3 hk0 v5 hfz hcc7 hq9
          gi_wp2_with fail
          refine region_drawn_in (plain_round _ l) (by kernel_rfl) (by kernel_rfl) ?_
          have HV5' : Hid (W.drew.cell? ⟨g, a * 6 + 5, none⟩ = some (.slice U9 m9 cu9)) := HV5
          have HFZ' : Hid (W.drew.frozen? ⟨g, a * 6 + 5, none⟩ = false) := HFZ
          have HC7' : Hid (W.drew.cell? ⟨b7, 0, none⟩ = some (.int .i64 f)) := HC7
          have HWD : Hid (Below W.heap.size W W.drew) := Lib.hid ((Below.refl _ _).drew)
          have HWS : Hid (W.drew.heap.size = W.heap.size) := Lib.hid rfl
          have HTR : Hid True := Lib.hid trivial
          generalize W.drew = wd at *
          clear v0
          refine wpAny_of_held (S := fun _ => True) _ _ _ _ ?_
          refine wpAnyH_take (i := 0) (v := ?vb1) rfl (by kernel_rfl) (by kernel_rfl) (by kernel_rfl) (fun _ _ _ h => h) (Or.inl ⟨by rfl, ?yb1⟩) HTR.out ?rb1
          case yb1 => (intro w' hSw; clear hSw; go_simp; try with_reducible rfl)
          simp only [List.getElem_toArray, List.getElem_cons_succ, List.getElem_cons_zero, Act.put, List.setIfInBounds_toArray, List.set_cons_zero, List.set_cons_succ]
          refine wpAnyH_take (i := 1) (v := ?vb2) rfl (by kernel_rfl) (by kernel_rfl) (by kernel_rfl) (fun _ _ _ h => h) (Or.inl ⟨by rfl, ?yb2⟩) HTR.out ?rb2
          case yb2 => (intro w' hSw; clear hSw; go_simp; try with_reducible rfl)
          simp only [List.getElem_toArray, List.getElem_cons_succ, List.getElem_cons_zero, Act.put, List.setIfInBounds_toArray, List.set_cons_zero, List.set_cons_succ]
          refine wpAnyH_take (i := 2) (v := ?vb3) rfl (by kernel_rfl) (by kernel_rfl) (by kernel_rfl) (fun _ _ _ h => h) (Or.inl ⟨by rfl, ?yb3⟩) HTR.out ?rb3
          case yb3 => (intro w' hSw; clear hSw; go_simp; try with_reducible rfl)
          simp only [List.getElem_toArray, List.getElem_cons_succ, List.getElem_cons_zero, Act.put, List.setIfInBounds_toArray, List.set_cons_zero, List.set_cons_succ]
          refine wpAnyH_take (i := 3) (v := ?vb4) rfl (by kernel_rfl) (by kernel_rfl) (by kernel_rfl) (fun _ _ _ h => h) (Or.inl ⟨by rfl, ?yb4⟩) HTR.out ?rb4
          case yb4 => (intro w' hSw; clear hSw; go_simp; try with_reducible rfl)
          simp only [List.getElem_toArray, List.getElem_cons_succ, List.getElem_cons_zero, Act.put, List.setIfInBounds_toArray, List.set_cons_zero, List.set_cons_succ]
          refine wpAnyH_ready (rs := [4, 5]) (by kernel_rfl) (by simp) ?_
          refine AllReadyH.cons rfl (fun K' hK => ?_) (AllReadyH.cons rfl (fun K' hK => ?_) AllReadyH.nil)
          · skip
            simp only [List.getElem_toArray, List.getElem_cons_succ, List.getElem_cons_zero]
            have x5 := HV5'.out
            go_simp
            clear x5
            refine hK.out _ _ HTR.out (fun _ => ?_)
            clear hK
            try simp only [List.getElem_toArray, List.getElem_cons_succ, List.getElem_cons_zero, Act.put, List.setIfInBounds_toArray, List.set_cons_zero, List.set_cons_succ]
            refine wpAnyH_ready (rs := [5]) (by kernel_rfl) (by simp) ?_
            refine AllReadyH.cons rfl (fun K' hK => ?_) AllReadyH.nil
            simp only [List.getElem_toArray, List.getElem_cons_succ, List.getElem_cons_zero]
            have x5 := HC7'.out
            go_simp
            clear x5
            refine hK.out _ _ HTR.out (fun _ => ?_)
            clear hK
            try simp only [List.getElem_toArray, List.getElem_cons_succ, List.getElem_cons_zero, Act.put, List.setIfInBounds_toArray, List.set_cons_zero, List.set_cons_succ]
            refine wpAnyH_ready (rs := [6]) (by kernel_rfl) (by simp) ?_
            refine AllReadyH.cons rfl (fun K' hK => ?_) AllReadyH.nil
            simp only [List.getElem_toArray, List.getElem_cons_succ, List.getElem_cons_zero]
            go_simp
            refine (CW.out _ HWD.out).mono ?_
            rintro e' w4 ⟨A9, n9, c9, rfl, hI9, hB9⟩
            have x5 := (hB9.cell (p := ⟨g, a * 6 + 5, none⟩) (block_lt_of_cell HV5'.out)).trans HV5'.out
            have x6 : w4.frozen? ⟨g, a * 6 + 5, none⟩ = false := (World.frozen?_of_block (a := ⟨g, a * 6 + 5, none⟩) (hB9.block g (block_lt_of_cell HV5'.out))).trans HFZ'.out
            have hb4 := HWD.out.trans (hB9.mono (by rw [HWS.out]; exact Nat.le_refl _))
            have HST := Lib.hid (HPUT.out w4 A9 n9 c9 HK0.out hb4 (hI9.mono fun b hb => ⟨by have := hb.1; have := HWS.out; omega, hb.2⟩))
            have HB4 := Lib.hid hb4
            clear hI9 hB9 hb4
            refine hK.out _ _ HTR.out (fun _ => ?_)
            clear hK
            try simp only [List.getElem_toArray, List.getElem_cons_succ, List.getElem_cons_zero, Act.put, List.setIfInBounds_toArray, List.set_cons_zero, List.set_cons_succ]
            refine wpAnyH_take (i := 7) (v := ?vb5) rfl (by kernel_rfl) (by kernel_rfl) (by kernel_rfl) (fun _ _ _ h => h) (Or.inl ⟨by rfl, ?yb5⟩) HTR.out ?rb5
            case yb5 => (intro w' hSw; clear hSw; go_simp; try with_reducible rfl)
            simp only [List.getElem_toArray, List.getElem_cons_succ, List.getElem_cons_zero, Act.put, List.setIfInBounds_toArray, List.set_cons_zero, List.set_cons_succ]
            refine wpAnyH_take (i := 8) (v := ?vb6) rfl (by kernel_rfl) (by kernel_rfl) (by kernel_rfl) (fun _ _ _ h => h) (Or.inl ⟨by rfl, ?yb6⟩) HTR.out ?rb6
            case yb6 => (intro w' hSw; clear hSw; go_simp; try with_reducible rfl)
            simp only [List.getElem_toArray, List.getElem_cons_succ, List.getElem_cons_zero, Act.put, List.setIfInBounds_toArray, List.set_cons_zero, List.set_cons_succ]
            refine wpAnyH_ready (rs := [9]) (by kernel_rfl) (by simp) ?_
            refine AllReadyH.cons rfl (fun K' hK => ?_) AllReadyH.nil
            simp only [List.getElem_toArray, List.getElem_cons_succ, List.getElem_cons_zero]
            go_simp
            refine hK.out _ _ HTR.out (fun _ => ?_)
            clear hK
            try simp only [List.getElem_toArray, List.getElem_cons_succ, List.getElem_cons_zero, Act.put, List.setIfInBounds_toArray, List.set_cons_zero, List.set_cons_succ]
            refine wpAnyH_done (by kernel_rfl) ?_ _
            clear x5 x6
            refine ⟨_, fun b hb => ?_, ?_, HST.out⟩
            · have hs4 : (w4.setCell ⟨g, a * 6 + 5, none⟩ (.slice A9 n9 c9)).heap.size = w4.heap.size := by simp [World.setCell]
              rw [hs4]
              have := HB4.out.size
              rcases hb with hb | hb
              · have := (HYX.out b hb).2
                exact ⟨.inl hb, by omega⟩
              · exact ⟨.inr hb.1, hb.2⟩
            · exact (Kept.of_below HB4.out).trans (Kept.set _ _ _ HYG.out)
          · skip
            simp only [List.getElem_toArray, List.getElem_cons_succ, List.getElem_cons_zero]
            have x5 := HC7'.out
            go_simp
            clear x5
            refine hK.out _ _ HTR.out (fun _ => ?_)
            clear hK
            try simp only [List.getElem_toArray, List.getElem_cons_succ, List.getElem_cons_zero, Act.put, List.setIfInBounds_toArray, List.set_cons_zero, List.set_cons_succ]
            refine wpAnyH_ready (rs := [4]) (by kernel_rfl) (by simp) ?_
            refine AllReadyH.cons rfl (fun K' hK => ?_) AllReadyH.nil
            simp only [List.getElem_toArray, List.getElem_cons_succ, List.getElem_cons_zero]
            have x5 := HV5'.out
            go_simp
            clear x5
            refine hK.out _ _ HTR.out (fun _ => ?_)
            clear hK
            try simp only [List.getElem_toArray, List.getElem_cons_succ, List.getElem_cons_zero, Act.put, List.setIfInBounds_toArray, List.set_cons_zero, List.set_cons_succ]
            refine wpAnyH_ready (rs := [6]) (by kernel_rfl) (by simp) ?_
            refine AllReadyH.cons rfl (fun K' hK => ?_) AllReadyH.nil
            simp only [List.getElem_toArray, List.getElem_cons_succ, List.getElem_cons_zero]
            go_simp
            refine (CW.out _ HWD.out).mono ?_
            rintro e' w4 ⟨A9, n9, c9, rfl, hI9, hB9⟩
            have x5 := (hB9.cell (p := ⟨g, a * 6 + 5, none⟩) (block_lt_of_cell HV5'.out)).trans HV5'.out
            have x6 : w4.frozen? ⟨g, a * 6 + 5, none⟩ = false := (World.frozen?_of_block (a := ⟨g, a * 6 + 5, none⟩) (hB9.block g (block_lt_of_cell HV5'.out))).trans HFZ'.out
            have hb4 := HWD.out.trans (hB9.mono (by rw [HWS.out]; exact Nat.le_refl _))
            have HST := Lib.hid (HPUT.out w4 A9 n9 c9 HK0.out hb4 (hI9.mono fun b hb => ⟨by have := hb.1; have := HWS.out; omega, hb.2⟩))
            have HB4 := Lib.hid hb4
            clear hI9 hB9 hb4
            refine hK.out _ _ HTR.out (fun _ => ?_)
            clear hK
            try simp only [List.getElem_toArray, List.getElem_cons_succ, List.getElem_cons_zero, Act.put, List.setIfInBounds_toArray, List.set_cons_zero, List.set_cons_succ]
            refine wpAnyH_take (i := 7) (v := ?vb7) rfl (by kernel_rfl) (by kernel_rfl) (by kernel_rfl) (fun _ _ _ h => h) (Or.inl ⟨by rfl, ?yb7⟩) HTR.out ?rb7
            case yb7 => (intro w' hSw; clear hSw; go_simp; try with_reducible rfl)
            simp only [List.getElem_toArray, List.getElem_cons_succ, List.getElem_cons_zero, Act.put, List.setIfInBounds_toArray, List.set_cons_zero, List.set_cons_succ]
            refine wpAnyH_take (i := 8) (v := ?vb8) rfl (by kernel_rfl) (by kernel_rfl) (by kernel_rfl) (fun _ _ _ h => h) (Or.inl ⟨by rfl, ?yb8⟩) HTR.out ?rb8
            case yb8 => (intro w' hSw; clear hSw; go_simp; try with_reducible rfl)
            simp only [List.getElem_toArray, List.getElem_cons_succ, List.getElem_cons_zero, Act.put, List.setIfInBounds_toArray, List.set_cons_zero, List.set_cons_succ]
            refine wpAnyH_ready (rs := [9]) (by kernel_rfl) (by simp) ?_
            refine AllReadyH.cons rfl (fun K' hK => ?_) AllReadyH.nil
            simp only [List.getElem_toArray, List.getElem_cons_succ, List.getElem_cons_zero]
            go_simp
            refine hK.out _ _ HTR.out (fun _ => ?_)
            clear hK
            try simp only [List.getElem_toArray, List.getElem_cons_succ, List.getElem_cons_zero, Act.put, List.setIfInBounds_toArray, List.set_cons_zero, List.set_cons_succ]
            refine wpAnyH_done (by kernel_rfl) ?_ _
            clear x5 x6
            refine ⟨_, fun b hb => ?_, ?_, HST.out⟩
            · have hs4 : (w4.setCell ⟨g, a * 6 + 5, none⟩ (.slice A9 n9 c9)).heap.size = w4.heap.size := by simp [World.setCell]
              rw [hs4]
              have := HB4.out.size
              rcases hb with hb | hb
              · have := (HYX.out b hb).2
                exact ⟨.inl hb, by omega⟩
              · exact ⟨.inr hb.1, hb.2⟩
            · exact (Kept.of_below HB4.out).trans (Kept.set _ _ _ HYG.out)
      case done =>
        intro Y W hI hD hYN
        have HI9 := Lib.hid hI; have HD := Lib.hid hD; have HYN := Lib.hid hYN
        have HBW : Hid (Below w.heap.size w W) := Lib.hid (Kept.below HB10.out hI.kx (fun i e => by omega) HB10.out.size)
        have HL9 := HOUTL.out
        have HS : Hid (TrB e (some ⟨g, 0, none⟩) N N W.drew w7.heap.size ∧ W.drew.rowIs b7 3 1 (fun _ => .int .i64 f)) := Lib.hid ⟨(hI.kx.block _ (by omega) (fun e => by omega)).trans HTR10.out, HR10.out.of_block (hI.kx.block b7 (by omega) (fun e => by omega))⟩
        have HOW : Hid (W.drew.heap[w.heap.size + 1 + 1]? = some (.cells zt 24 (0, 0))) := Lib.hid ((hI.kx.block _ (by omega) (fun e => by omega)).trans HOUT10.out)
        clear hI hD hYN
        rename_i K hK
        refine hK _ _ ?_
        clear hK K
        clear hz9 s10
        gi_wp2_with fail
        refine region_drawn_in (plain_wide _) (by kernel_rfl) (by kernel_rfl) ?_
        have HWD : Hid (Kept (fun _ => False) W W.drew) := Lib.hid (Kept.drew W)
        generalize W.drew = wd at *
        refine wpAny_of_held (S := fun W' => TrB e (some ⟨g, 0, none⟩) N N W' w7.heap.size ∧ W'.rowIs b7 3 1 (fun _ => .int .i64 f)) _ _ _ _ ?_
        refine wpAnyH_take (i := 0) (v := ?ve1) rfl (by kernel_rfl) (by kernel_rfl) (by kernel_rfl) (fun _ _ _ h => h) (Or.inl ⟨by rfl, ?ye1⟩) HS.out ?re1
        case ye1 => (intro w' hSw; obtain ⟨x0, x1⟩ := hSw.1.cs; clear hSw; go_simp; try with_reducible rfl)
        simp only [List.getElem_toArray, List.getElem_cons_succ, List.getElem_cons_zero, Act.put, List.setIfInBounds_toArray, List.set_cons_zero, List.set_cons_succ]
        refine wpAnyH_take (i := 1) (v := ?ve2) rfl (by kernel_rfl) (by kernel_rfl) (by kernel_rfl) (fun _ _ _ h => h) (Or.inl ⟨by rfl, ?ye2⟩) HS.out ?re2
        case ye2 => (intro w' hSw; have x0 := hSw.2.cell (i := 0) (by omega); clear hSw; go_simp; try with_reducible rfl)
        simp only [List.getElem_toArray, List.getElem_cons_succ, List.getElem_cons_zero, Act.put, List.setIfInBounds_toArray, List.set_cons_zero, List.set_cons_succ]
        refine wpAnyH_ready (rs := [2]) (by kernel_rfl) (by simp) ?_
        refine AllReadyH.cons rfl (fun K' hK => ?_) AllReadyH.nil
        simp only [List.getElem_toArray, List.getElem_cons_succ, List.getElem_cons_zero]
        rw [if_pos (by rfl)]
        refine wp_store_row 24 (.tmp 4) (.tmp 59) rfl (w.heap.size + 1 + 1) #[.int .i64 e, .slice (some ⟨g, 0, none⟩) N N] rfl rfl 24 zt HOW.out (tr_sized _ _ _ _) rfl (tr_all _ _ _ _) ?_
        have HS2 : Hid (TrB e (some ⟨g, 0, none⟩) N N (wd.setRow (w.heap.size + 1 + 1) #[.int .i64 e, .slice (some ⟨g, 0, none⟩) N N]) w7.heap.size ∧ (wd.setRow (w.heap.size + 1 + 1) #[.int .i64 e, .slice (some ⟨g, 0, none⟩) N N]).rowIs b7 3 1 (fun _ => .int .i64 f)) := Lib.hid ⟨(setRow_other wd _ _ _ (by omega)).trans HS.out.1, HS.out.2.of_block (setRow_other wd _ _ _ (by have := HR6.out.1; omega))⟩
        have HQZ := Lib.hid (setRow_heap wd (w.heap.size + 1 + 1) _ #[.int .i64 e, .slice (some ⟨g, 0, none⟩) N N] 24 _ HOW.out)
        refine hK.out _ _ HS2.out (fun _ => ?_)
        clear hK
        try simp only [List.getElem_toArray, List.getElem_cons_succ, List.getElem_cons_zero, Act.put, List.setIfInBounds_toArray, List.set_cons_zero, List.set_cons_succ]
        refine wpAnyH_take (i := 3) (v := ?ve3) rfl (by kernel_rfl) (by kernel_rfl) (by kernel_rfl) (fun _ _ _ h => h) (Or.inl ⟨by rfl, ?ye3⟩) HS2.out ?re3
        case ye3 => (intro w' hSw; clear hSw; go_simp; try with_reducible rfl)
        simp only [List.getElem_toArray, List.getElem_cons_succ, List.getElem_cons_zero, Act.put, List.setIfInBounds_toArray, List.set_cons_zero, List.set_cons_succ]
        refine wpAnyH_take (i := 4) (v := ?ve4) rfl (by kernel_rfl) (by kernel_rfl) (by kernel_rfl) (fun _ _ _ h => h) (Or.inl ⟨by rfl, ?ye4⟩) HS2.out ?re4
        case ye4 => (intro w' hSw; clear hSw; go_simp; try with_reducible rfl)
        simp only [List.getElem_toArray, List.getElem_cons_succ, List.getElem_cons_zero, Act.put, List.setIfInBounds_toArray, List.set_cons_zero, List.set_cons_succ]
        refine wpAnyH_done (by kernel_rfl) ?_ _
        dsimp only [calm]
        gi_wp2_with fail
        have HDZ : Hid ((wd.setRow (w.heap.size + 1 + 1) #[.int .i64 e, .slice (some ⟨g, 0, none⟩) N N]).heap[w10.heap.size]? = some (.deferred (some []))) := Lib.hid ((setRow_other wd _ _ _ (by have := HS10.out; omega)).trans ((HWD.out.block _ (Array.getElem?_eq_some_iff.1 HD.out).1 (fun h => h)).trans HD.out))
        refine leaves_marks2 (lo := 0) [w10.heap.size] _ ⟨by omega, fun E hE => (by cases hE), HDZ.out, trivial⟩ fun W9 hk9 => ⟨_, results3 (p := 4) (u := 5) (v := 6) (ty := 24) (by kernel_rfl) _ _ (w.heap.size + 1 + 1) 24 #[.int .i64 e, .slice (some ⟨g, 0, none⟩) N N] (0, 0) _ rfl ((hk9.block _ (Array.getElem?_eq_some_iff.1 HQZ.out).1 (fun h => by have := List.mem_singleton.1 h; have := HS10.out; omega)).trans HQZ.out) Tryz.underlying24 rfl (tr_sized _ _ _ _), ?_⟩
        have hfin : addF ns d nl = upUn f ns1 e := by
          unfold addF
          rw [HE.out.1, HE.out.2.1, HF2.out.1, HNS1.out]
        have hle6 : Hid (w.heap.size ≤ W6.heap.size) := Lib.hid HA6.out.bl.size
        have hkz : Kept (fun i => i = w.heap.size + 1 + 1 ∨ i ∈ [w10.heap.size]) W W9 := ((HWD.out.mono fun i h => h.elim).trans ((⟨rfl, rfl, rfl, by simp [World.setRow], fun i _ hi => setRow_other wd _ _ _ (fun h => hi (by left; omega))⟩ : Kept _ wd (wd.setRow (w.heap.size + 1 + 1) #[.int .i64 e, .slice (some ⟨g, 0, none⟩) N N])))).trans (hk9.mono fun i h => .inr h)
        have hgne : g ≠ w.heap.size + 1 + 1 ∧ g ≠ w10.heap.size := ⟨by omega, by have := HS10.out; omega⟩
        have hown := HI9.out.own.kept hkz.size (hkz.block g HI9.out.own.lt.2 (fun h => by rcases h with h | h; { exact hgne.1 h }; { exact hgne.2 (List.mem_singleton.1 h) })) (fun b hb hlt => hkz.block b hlt (fun h => by
          have h10 := HS10.out
          rcases h with h | h
          · rcases hb with hb | hb
            · have := HS0.out _ hb; omega
            · rcases (HI9.out.yx b hb.1).1 with h2 | h2
              · exact hb.2 h2
              · omega
          · have h1 := List.mem_singleton.1 h
            rcases hb with hb | hb
            · have := HS0.out _ hb; omega
            · exact HYN.out b hb.1 h1))
        refine ⟨g, ?_, ⟨W6.heap.size, hle6.out, ?_⟩, Kept.below HBW.out hkz (fun i e => ?_) HBW.out.size⟩
        · rw [HNN.out]; rfl
        · rw [HNN.out, hfin]
          refine hown.mono (fun b hb => ?_) (fun b hb => ?_)
          · rcases hb with hb | hb
            · exact .inl hb
            · refine .inr ⟨?_, hb.2⟩
              rcases (HI9.out.yx b hb.1).1 with h | h
              · omega
              · have := HB10.out.size; omega
          · rcases hb with hb | hb
            · have := HS0.out b hb; omega
            · exact hb.2
        · rcases e with e | e
          · omega
          · have := List.mem_singleton.1 e; have := HS10.out; omega
theorem add_yes (d : Nat) (A : Option Addr) (n c : Nat) (ns : List Nd) (q : NdQ) (nl : Nd) (w : World) (hN : Nodes Any Any w A n c ns) (hq : NdIs Any w q nl) (hT : Tabs w) (hr : Right ns d) (hl : LeafR nl) (hm : addD ns d ≤ 6) :
    Calls Tryz.prog 9 #[.agg #[.int .i64 d, .slice A n c], .agg q.cs] w fun e w' => ∃ g, e = .returned (.tuple #[.agg #[.int .i64 (addD ns d : Nat), .slice (some ⟨g, 0, none⟩) (2 ^ (addD ns d + 1) - 1) (2 ^ (addD ns d + 1) - 1)], .int .i64 (firstB ns d : Nat), .int .i64 0]) ∧ w.heap.size ≤ g ∧ Nodes Any Any w' (some ⟨g, 0, none⟩) (2 ^ (addD ns d + 1) - 1) (2 ^ (addD ns d + 1) - 1) (addF ns d nl) ∧ Below w.heap.size w w' :=
  (add_yesS (fun b => b < w.heap.size) d A n c ns q nl w hN hq (fun _ h => h) (hN.farB (Below.refl _ _)) hq.far hT hr hl hm).mono fun e w' ⟨g, h1, ⟨bs, h2, h3⟩, h4⟩ => ⟨g, h1, Nat.le_trans h2 h3.lt.1, h3.nodes.any, h4⟩
end Go.Proofs.YtakglldffpnlaaaGreatDoor.Rt
