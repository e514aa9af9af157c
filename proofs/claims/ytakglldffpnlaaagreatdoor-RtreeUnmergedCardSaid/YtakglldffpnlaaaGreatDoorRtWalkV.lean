/- Walks: cut. Written by tools/mk_rtcut.py. -/
import Derived.Test.YtakglldffpnlaaaGreatDoorRtWalkU
import Derived.Test.YtakglldffpnlaaaGreatDoorRtSameT
namespace Go.Proofs.YtakglldffpnlaaaGreatDoor.Rt
set_option linter.all false
open Go.RowKit
open Wr (Txt Any New)

def CutC (d : Nat) (ns : List Nd) : Prop := ∀ (A : Option Addr) (n c : Nat) (w : World), Nodes Any Any w A n c ns → Right ns d →
  Calls Tryz.prog 42 #[.agg #[.int .i64 d, .slice A n c]] w fun e w' => ∃ n' c', e = .returned (.agg #[.int .i64 ((cutF d ns).1 : Nat), .slice A n' c']) ∧ (n' ≤ n ∧ n' ≤ c' ∧ c' ≤ 9223372036854775807 ∧ (cutF d ns).2 = ns.take n') ∧ Below w.heap.size w w'
set_option maxHeartbeats 4000000 in
set_option maxRecDepth 100000 in
theorem cut_zero (ns : List Nd) : CutC 0 ns := fun A n c w hN hR => by
  obtain ⟨W2, hW2, g1, g2, hB2⟩ := two_trees w 0 A n c 0 none 0 0
  have HN := Lib.hid hN
  have HSwd1 : Hid (PrS (0 : Int) A n c w W2.drew) := Lib.hid ⟨g1, hB2.drew⟩
  have HOwd1 : Hid (TrB 0 none 0 0 W2.drew (w.heap.size + 1)) := Lib.hid g2
  clear hN hR g1 g2 hB2
  go_enter Tryz.func42, Tryz.ntmps42
  go_wp2_with fail
  try simp only [Act.put]
  refine Wr.region_calm ?_
  refine wp_region_any (by kernel_rfl) ?_
  change wpAny _ _ _ _ _ _ _ (World.drew W2)
  generalize World.drew W2 = wd1 at *
  refine wpAny_of_held (S := fun W => PrS (0 : Int) A n c w W) _ _ _ _ ?_
  refine wpAnyH_take (i := 0) (v := ?ve1) rfl (by kernel_rfl) (by kernel_rfl) (by kernel_rfl) (fun _ _ _ h => h) (Or.inl ⟨by rfl, ?ye1⟩) HSwd1.out ?re1
  case ye1 => (intro w' hSw; clear hSw; go_simp; try with_reducible rfl)
  simp only [List.getElem_toArray, List.getElem_cons_succ, List.getElem_cons_zero, Act.put, List.setIfInBounds_toArray, List.set_cons_zero, List.set_cons_succ]
  refine wpAnyH_take (i := 1) (v := ?ve2) rfl (by kernel_rfl) (by kernel_rfl) (by kernel_rfl) (fun _ _ _ h => h) (Or.inl ⟨by rfl, ?ye2⟩) HSwd1.out ?re2
  case ye2 => (intro w' hSw; obtain ⟨t0, t1⟩ := hSw.tr.cs; clear hSw; go_simp; try with_reducible rfl)
  simp only [List.getElem_toArray, List.getElem_cons_succ, List.getElem_cons_zero, Act.put, List.setIfInBounds_toArray, List.set_cons_zero, List.set_cons_succ]
  refine wpAnyH_take (i := 2) (v := ?ve3) rfl (by kernel_rfl) (by kernel_rfl) (by kernel_rfl) (fun _ _ _ h => h) (Or.inl ⟨by rfl, ?ye3⟩) HSwd1.out ?re3
  case ye3 => (intro w' hSw; clear hSw; go_simp; try with_reducible rfl)
  simp only [List.getElem_toArray, List.getElem_cons_succ, List.getElem_cons_zero, Act.put, List.setIfInBounds_toArray, List.set_cons_zero, List.set_cons_succ]
  refine wpAnyH_take (i := 3) (v := ?ve4) rfl (by kernel_rfl) (by kernel_rfl) (by kernel_rfl) (fun _ _ _ h => h) (Or.inl ⟨by rfl, ?ye4⟩) HSwd1.out ?re4
  case ye4 => (intro w' hSw; clear hSw; go_simp; try with_reducible rfl)
  simp only [List.getElem_toArray, List.getElem_cons_succ, List.getElem_cons_zero, Act.put, List.setIfInBounds_toArray, List.set_cons_zero, List.set_cons_succ]
  refine wpAnyH_take (i := 4) (v := undef) rfl (by kernel_rfl) (by kernel_rfl) (by kernel_rfl) (fun _ _ _ h => h) (Or.inr ⟨by rfl, rfl⟩) HSwd1.out ?re5
  simp only [List.getElem_toArray, List.getElem_cons_succ, List.getElem_cons_zero, Act.put, List.setIfInBounds_toArray, List.set_cons_zero, List.set_cons_succ]
  refine wpAnyH_take (i := 5) (v := undef) rfl (by kernel_rfl) (by kernel_rfl) (by kernel_rfl) (fun _ _ _ h => h) (Or.inr ⟨by rfl, rfl⟩) HSwd1.out ?re6
  simp only [List.getElem_toArray, List.getElem_cons_succ, List.getElem_cons_zero, Act.put, List.setIfInBounds_toArray, List.set_cons_zero, List.set_cons_succ]
  refine wpAnyH_take (i := 6) (v := undef) rfl (by kernel_rfl) (by kernel_rfl) (by kernel_rfl) (fun _ _ _ h => h) (Or.inr ⟨by rfl, rfl⟩) HSwd1.out ?re7
  simp only [List.getElem_toArray, List.getElem_cons_succ, List.getElem_cons_zero, Act.put, List.setIfInBounds_toArray, List.set_cons_zero, List.set_cons_succ]
  refine wpAnyH_take (i := 7) (v := undef) rfl (by kernel_rfl) (by kernel_rfl) (by kernel_rfl) (fun _ _ _ h => h) (Or.inr ⟨by rfl, rfl⟩) HSwd1.out ?re8
  simp only [List.getElem_toArray, List.getElem_cons_succ, List.getElem_cons_zero, Act.put, List.setIfInBounds_toArray, List.set_cons_zero, List.set_cons_succ]
  refine wpAnyH_take (i := 8) (v := undef) rfl (by kernel_rfl) (by kernel_rfl) (by kernel_rfl) (fun _ _ _ h => h) (Or.inr ⟨by rfl, rfl⟩) HSwd1.out ?re9
  simp only [List.getElem_toArray, List.getElem_cons_succ, List.getElem_cons_zero, Act.put, List.setIfInBounds_toArray, List.set_cons_zero, List.set_cons_succ]
  refine wpAnyH_take (i := 9) (v := undef) rfl (by kernel_rfl) (by kernel_rfl) (by kernel_rfl) (fun _ _ _ h => h) (Or.inr ⟨by rfl, rfl⟩) HSwd1.out ?re10
  simp only [List.getElem_toArray, List.getElem_cons_succ, List.getElem_cons_zero, Act.put, List.setIfInBounds_toArray, List.set_cons_zero, List.set_cons_succ]
  refine wpAnyH_take (i := 10) (v := undef) rfl (by kernel_rfl) (by kernel_rfl) (by kernel_rfl) (fun _ _ _ h => h) (Or.inr ⟨by rfl, rfl⟩) HSwd1.out ?re11
  simp only [List.getElem_toArray, List.getElem_cons_succ, List.getElem_cons_zero, Act.put, List.setIfInBounds_toArray, List.set_cons_zero, List.set_cons_succ]
  refine wpAnyH_take (i := 11) (v := ?ve12) rfl (by kernel_rfl) (by kernel_rfl) (by kernel_rfl) (fun _ _ _ h => h) (Or.inl ⟨by rfl, ?ye12⟩) HSwd1.out ?re12
  case ye12 => (intro w' hSw; clear hSw; go_simp; try with_reducible rfl)
  simp only [List.getElem_toArray, List.getElem_cons_succ, List.getElem_cons_zero, Act.put, List.setIfInBounds_toArray, List.set_cons_zero, List.set_cons_succ]
  refine wpAnyH_done (by kernel_rfl) ?_ _
  change Exit.then _ _ Exit.normal _ _
  clear hW2
  obtain ⟨t0, t1⟩ := HSwd1.out.tr.cs
  go_wp2_with (refine wpList_store_row rfl 24 (.tmp 2) (.tmp 16) rfl (w.heap.size + 1) #[.int .i64 0, .slice A n c] rfl rfl 24 #[.int .i64 0, .slice none 0 0] HOwd1.out (tr_sized _ _ _ _) rfl (tr_all _ _ _ _) ?_)
  have HQZ := Lib.hid (setRow_heap wd1 (w.heap.size + 1) _ #[.int .i64 0, .slice A n c] 24 _ HOwd1.out)
  go_wp2_with fail
  refine bodyPost_ret (v := .agg #[.int .i64 0, .slice A n c]) (results_cell_row (p := 2) (ty := 24) (by kernel_rfl) _ _ (w.heap.size + 1) 24 #[.int .i64 0, .slice A n c] (0, 0) _ rfl HQZ.out Tryz.underlying24 rfl (tr_sized _ _ _ _)) rfl ?_
  exact ⟨n, c, rfl, ⟨Nat.le_refl _, HN.out.2.1, HN.out.2.2.1, (show ns = ns.take n from (List.take_of_length_le (by rw [HN.out.len]; exact Nat.le_refl _)).symm)⟩, below_setRow HSwd1.out.bl (by omega) _⟩
set_option maxHeartbeats 8000000 in
set_option maxRecDepth 100000 in
theorem cut_succ (d : Nat) (ns : List Nd) (ih : CutC d (ns.take (2 ^ (d + 1) - 1))) : CutC (d + 1) ns := fun A n c w hN hR => by
  have hlen := hN.len
  have hd6 := hR.deep
  have hnn : n = 2 ^ (d + 1 + 1) - 1 := by rw [← hlen, hR.len]
  have e2 : 2 ^ (d + 1 + 1) = 2 * 2 ^ (d + 1) := by rw [Nat.pow_succ]; omega
  obtain ⟨p1, p2⟩ := pow_bd (d + 1) (by omega)
  have hc9 : c ≤ 9223372036854775807 := hN.2.2.1
  have hnc : n ≤ c := hN.2.1
  obtain ⟨ad, rfl⟩ := hN.some (by omega)
  obtain ⟨m, hm⟩ : ∃ m, 2 ^ (d + 1) = m := ⟨_, rfl⟩
  have CL := Lib.hid (leaves_is (d + 1) · (by omega))
  have CN := Lib.hid (nodes_is d · (by omega))
  rw [hm] at CL CN e2 p1 p2
  have hn2 : n = 2 * m - 1 := by omega
  have h2m : 2 ≤ m := by have := Nat.two_pow_pos d; have : 2 ^ (d + 1) = 2 * 2 ^ d := by { rw [Nat.pow_succ]; omega }; omega
  have x8 : ¬ c = m := by omega
  have HSUB := Lib.hid (nodes_sub hN m (n - m) (by omega) (c - m) (by omega) (by omega))
  have hdt : (ns.drop m).take (n - m) = ns.drop m := List.take_of_length_le (by rw [List.length_drop, hlen]; exact Nat.le_refl _)
  rw [hdt] at HSUB
  have HSUB2 := Lib.hid (nodes_sub hN 0 (m - 1) (by omega) (m - 1) (Nat.le_refl _) (by omega))
  rw [List.drop_zero] at HSUB2
  have CH : Hid (∀ W, Below w.heap.size w W → Calls Tryz.prog 65 #[.slice (some (ad.add (m * 6))) (n - m) (c - m), .func (.func 66) #[] #[]] W fun e w' => e = .returned (.bool ((ns.drop m).any (fun m => m.kind == 1))) ∧ Below W.heap.size W w') := Lib.hid fun W hb => containsN_is _ _ _ _ W (HSUB.out.below hb)
  have CC := Lib.hid (fun W => clipN_is ad (m - 1) c W (by omega) hc9)
  have IH : Hid (∀ W, Below w.heap.size w W → Calls Tryz.prog 42 #[.agg #[.int .i64 d, .slice (some ad) (m - 1) (m - 1)]] W fun e w' => ∃ n' c', e = .returned (.agg #[.int .i64 ((cutF d (ns.take (2 ^ (d + 1) - 1))).1 : Nat), .slice (some ad) n' c']) ∧ (n' ≤ m - 1 ∧ n' ≤ c' ∧ c' ≤ 9223372036854775807 ∧ (cutF d (ns.take (2 ^ (d + 1) - 1))).2 = (ns.take (2 ^ (d + 1) - 1)).take n') ∧ Below W.heap.size W w') := Lib.hid fun W hb => ih (some ad) (m - 1) (m - 1) W (by rw [hm]; exact HSUB2.out.below hb) (half_right hR)
  have HN := Lib.hid hN
  obtain ⟨b, hb⟩ : ∃ b, (ns.drop m).any (fun m => m.kind == 1) = b := ⟨_, rfl⟩
  have HCUT : Hid (cutF (d + 1) ns = if b = true then (d + 1, ns) else cutF d (ns.take (2 ^ (d + 1) - 1))) := Lib.hid (by rw [cutF, hm, hb])
  rw [hb] at CH
  obtain ⟨z5, hz5⟩ : ∃ z, (cutF d (ns.take (2 ^ (d + 1) - 1))).1 = z := ⟨_, rfl⟩
  have HZ5 := Lib.hid hz5
  rw [hz5] at IH
  obtain ⟨e, he⟩ : ∃ e, d + 1 = e := ⟨_, rfl⟩
  have x1 : (e : Int) - 1 = (d : Int) := by omega
  have x2 : ((e : Int) == 0) = false := by simp; omega
  have x3 : (m : Int) ≤ (n : Int) := by omega
  have x4 : ((m - 1 : Nat) : Int) ≤ (n : Int) := by omega
  have x5 : (n : Int) ≤ (c : Int) := by omega
  have x6 : (m : Int) ≤ (c : Int) := by omega
  have x7 : ((m - 1 : Nat) : Int) ≤ (c : Int) := by omega
  obtain ⟨m1, hm1⟩ : ∃ m1, m - 1 = m1 := ⟨_, rfl⟩
  rw [hm1] at CN CC IH x4 x7
  rw [he] at CL
  have HEE := Lib.hid he
  obtain ⟨W2, hW2, g1, g2, hB2⟩ := two_trees w (e : Int) (some ad) n c 0 none 0 0
  have HSwd1 : Hid (PrS (e : Int) (some ad) n c w W2.drew) := Lib.hid ⟨g1, hB2.drew⟩
  have HOwd1 : Hid (TrB 0 none 0 0 W2.drew (w.heap.size + 1)) := Lib.hid g2
  have he63 : e ≤ 7 := by omega
  rw [show ((d + 1 : Nat) : Int) = (e : Int) by rw [he]]
  have HM1 := Lib.hid (show m1 ≤ n ∧ 2 ^ (d + 1) - 1 = m1 from ⟨by omega, by have h9 := hm; omega⟩)
  clear hN hR ih hlen hnn e2 hdt hb hz5 hm hm1 hn2 HSUB HSUB2 hd6 he g1 g2 hB2
  go_enter Tryz.func42, Tryz.ntmps42
  go_wp2_with fail
  cases b with
  | true =>
    try simp only [Act.put]
    refine Wr.region_calm ?_
    refine wp_region_any (by kernel_rfl) ?_
    change wpAny _ _ _ _ _ _ _ (World.drew W2)
    generalize World.drew W2 = wd1 at *
    refine wpAny_of_held (S := fun W => PrS (e : Int) (some ad) n c w W) _ _ _ _ ?_
    refine wpAnyH_take (i := 0) (v := ?ve13) rfl (by kernel_rfl) (by kernel_rfl) (by kernel_rfl) (fun _ _ _ h => h) (Or.inl ⟨by rfl, ?ye13⟩) HSwd1.out ?re13
    case ye13 => (intro w' hSw; clear hSw; go_simp; try with_reducible rfl)
    simp only [List.getElem_toArray, List.getElem_cons_succ, List.getElem_cons_zero, Act.put, List.setIfInBounds_toArray, List.set_cons_zero, List.set_cons_succ]
    refine wpAnyH_take (i := 1) (v := ?ve14) rfl (by kernel_rfl) (by kernel_rfl) (by kernel_rfl) (fun _ _ _ h => h) (Or.inl ⟨by rfl, ?ye14⟩) HSwd1.out ?re14
    case ye14 => (intro w' hSw; obtain ⟨t0, t1⟩ := hSw.tr.cs; clear hSw; go_simp; try with_reducible rfl)
    simp only [List.getElem_toArray, List.getElem_cons_succ, List.getElem_cons_zero, Act.put, List.setIfInBounds_toArray, List.set_cons_zero, List.set_cons_succ]
    refine wpAnyH_take (i := 2) (v := ?ve15) rfl (by kernel_rfl) (by kernel_rfl) (by kernel_rfl) (fun _ _ _ h => h) (Or.inl ⟨by rfl, ?ye15⟩) HSwd1.out ?re15
    case ye15 => (intro w' hSw; clear hSw; go_simp; try with_reducible rfl)
    simp only [List.getElem_toArray, List.getElem_cons_succ, List.getElem_cons_zero, Act.put, List.setIfInBounds_toArray, List.set_cons_zero, List.set_cons_succ]
    refine wpAnyH_take (i := 3) (v := ?ve16) rfl (by kernel_rfl) (by kernel_rfl) (by kernel_rfl) (fun _ _ _ h => h) (Or.inl ⟨by rfl, ?ye16⟩) HSwd1.out ?re16
    case ye16 => (intro w' hSw; clear hSw; go_simp; try with_reducible rfl)
    simp only [List.getElem_toArray, List.getElem_cons_succ, List.getElem_cons_zero, Act.put, List.setIfInBounds_toArray, List.set_cons_zero, List.set_cons_succ]
    refine wpAnyH_take (i := 4) (v := ?ve17) rfl (by kernel_rfl) (by kernel_rfl) (by kernel_rfl) (fun _ _ _ h => h) (Or.inl ⟨by rfl, ?ye17⟩) HSwd1.out ?re17
    case ye17 => (intro w' hSw; clear hSw; go_simp; try with_reducible rfl)
    simp only [List.getElem_toArray, List.getElem_cons_succ, List.getElem_cons_zero, Act.put, List.setIfInBounds_toArray, List.set_cons_zero, List.set_cons_succ]
    refine wpAnyH_take (i := 5) (v := ?ve18) rfl (by kernel_rfl) (by kernel_rfl) (by kernel_rfl) (fun _ _ _ h => h) (Or.inl ⟨by rfl, ?ye18⟩) HSwd1.out ?re18
    case ye18 => (intro w' hSw; obtain ⟨t0, t1⟩ := hSw.tr.cs; clear hSw; go_simp; try with_reducible rfl)
    simp only [List.getElem_toArray, List.getElem_cons_succ, List.getElem_cons_zero, Act.put, List.setIfInBounds_toArray, List.set_cons_zero, List.set_cons_succ]
    refine wpAnyH_take (i := 6) (v := ?ve19) rfl (by kernel_rfl) (by kernel_rfl) (by kernel_rfl) (fun _ _ _ h => h) (Or.inl ⟨by rfl, ?ye19⟩) HSwd1.out ?re19
    case ye19 => (intro w' hSw; clear hSw; go_simp; try with_reducible rfl)
    simp only [List.getElem_toArray, List.getElem_cons_succ, List.getElem_cons_zero, Act.put, List.setIfInBounds_toArray, List.set_cons_zero, List.set_cons_succ]
    refine wpAnyH_take (i := 7) (v := ?ve20) rfl (by kernel_rfl) (by kernel_rfl) (by kernel_rfl) (fun _ _ _ h => h) (Or.inl ⟨by rfl, ?ye20⟩) HSwd1.out ?re20
    case ye20 => (intro w' hSw; obtain ⟨t0, t1⟩ := hSw.tr.cs; clear hSw; go_simp; try with_reducible rfl)
    simp only [List.getElem_toArray, List.getElem_cons_succ, List.getElem_cons_zero, Act.put, List.setIfInBounds_toArray, List.set_cons_zero, List.set_cons_succ]
    refine wpAnyH_ready (rs := [8]) (by kernel_rfl) (by simp) ?_
    refine AllReadyH.cons rfl (fun K' hK => ?_) AllReadyH.nil
    simp only [List.getElem_toArray, List.getElem_cons_succ, List.getElem_cons_zero]
    go_simp
    refine (CL.out _).mono ?_
    rintro e' u1 ⟨rfl, rfl⟩
    refine hK.out _ _ HSwd1.out (fun _ => ?_)
    clear hK
    try simp only [List.getElem_toArray, List.getElem_cons_succ, List.getElem_cons_zero, Act.put, List.setIfInBounds_toArray, List.set_cons_zero, List.set_cons_succ]
    refine wpAnyH_take (i := 9) (v := ?ve21) rfl (by kernel_rfl) (by kernel_rfl) (by kernel_rfl) (fun _ _ _ h => h) (Or.inl ⟨by rfl, ?ye21⟩) HSwd1.out ?re21
    case ye21 => (intro w' hSw; clear hSw; go_simp; try with_reducible rfl)
    simp only [List.getElem_toArray, List.getElem_cons_succ, List.getElem_cons_zero, Act.put, List.setIfInBounds_toArray, List.set_cons_zero, List.set_cons_succ]
    refine wpAnyH_ready (rs := [10]) (by kernel_rfl) (by simp) ?_
    refine AllReadyH.cons rfl (fun K' hK => ?_) AllReadyH.nil
    simp only [List.getElem_toArray, List.getElem_cons_succ, List.getElem_cons_zero]
    go_simp
    refine (CH.out _ HSwd1.out.bl).mono ?_
    rintro e' u2 ⟨rfl, hb⟩
    have HSu2 := Lib.hid (HSwd1.out.below hb); have HOu2 := Lib.hid (HOwd1.out.below hb HOwd1.out.lt)
    clear hb
    refine hK.out _ _ HSu2.out (fun _ => ?_)
    clear hK
    try simp only [List.getElem_toArray, List.getElem_cons_succ, List.getElem_cons_zero, Act.put, List.setIfInBounds_toArray, List.set_cons_zero, List.set_cons_succ]
    refine wpAnyH_take (i := 11) (v := ?ve22) rfl (by kernel_rfl) (by kernel_rfl) (by kernel_rfl) (fun _ _ _ h => h) (Or.inl ⟨by rfl, ?ye22⟩) HSu2.out ?re22
    case ye22 => (intro w' hSw; clear hSw; go_simp; try with_reducible rfl)
    simp only [List.getElem_toArray, List.getElem_cons_succ, List.getElem_cons_zero, Act.put, List.setIfInBounds_toArray, List.set_cons_zero, List.set_cons_succ]
    refine wpAnyH_done (by kernel_rfl) ?_ _
    change Exit.then _ _ Exit.normal _ _
    clear hW2
    obtain ⟨t0, t1⟩ := HSu2.out.tr.cs
    go_wp2_with (refine wpList_store_row rfl 24 (.tmp 2) (.tmp 16) rfl (w.heap.size + 1) #[.int .i64 e, .slice (some ad) n c] rfl rfl 24 #[.int .i64 0, .slice none 0 0] HOu2.out (tr_sized _ _ _ _) rfl (tr_all _ _ _ _) ?_)
    have HQZ := Lib.hid (setRow_heap u2 (w.heap.size + 1) _ #[.int .i64 e, .slice (some ad) n c] 24 _ HOu2.out)
    go_wp2_with fail
    refine bodyPost_ret (v := .agg #[.int .i64 e, .slice (some ad) n c]) (results_cell_row (p := 2) (ty := 24) (by kernel_rfl) _ _ (w.heap.size + 1) 24 #[.int .i64 e, .slice (some ad) n c] (0, 0) _ rfl HQZ.out Tryz.underlying24 rfl (tr_sized _ _ _ _)) rfl ?_
    refine ⟨n, c, ?_, ?_, below_setRow HSu2.out.bl (by omega) _⟩
    · rw [show cutF (d + 1) ns = (d + 1, ns) by rw [HCUT.out]; simp, ← HEE.out]
    · rw [show cutF (d + 1) ns = (d + 1, ns) by rw [HCUT.out]; simp]; exact ⟨Nat.le_refl _, HN.out.2.1, HN.out.2.2.1, (show ns = ns.take n from (List.take_of_length_le (by rw [HN.out.len]; exact Nat.le_refl _)).symm)⟩
  | false =>
    try simp only [Act.put]
    refine Wr.region_calm ?_
    refine wp_region_any (by kernel_rfl) ?_
    change wpAny _ _ _ _ _ _ _ (World.drew W2)
    generalize World.drew W2 = wd1 at *
    refine wpAny_of_held (S := fun W => PrS (e : Int) (some ad) n c w W) _ _ _ _ ?_
    refine wpAnyH_take (i := 0) (v := ?ve23) rfl (by kernel_rfl) (by kernel_rfl) (by kernel_rfl) (fun _ _ _ h => h) (Or.inl ⟨by rfl, ?ye23⟩) HSwd1.out ?re23
    case ye23 => (intro w' hSw; clear hSw; go_simp; try with_reducible rfl)
    simp only [List.getElem_toArray, List.getElem_cons_succ, List.getElem_cons_zero, Act.put, List.setIfInBounds_toArray, List.set_cons_zero, List.set_cons_succ]
    refine wpAnyH_take (i := 1) (v := ?ve24) rfl (by kernel_rfl) (by kernel_rfl) (by kernel_rfl) (fun _ _ _ h => h) (Or.inl ⟨by rfl, ?ye24⟩) HSwd1.out ?re24
    case ye24 => (intro w' hSw; obtain ⟨t0, t1⟩ := hSw.tr.cs; clear hSw; go_simp; try with_reducible rfl)
    simp only [List.getElem_toArray, List.getElem_cons_succ, List.getElem_cons_zero, Act.put, List.setIfInBounds_toArray, List.set_cons_zero, List.set_cons_succ]
    refine wpAnyH_take (i := 2) (v := ?ve25) rfl (by kernel_rfl) (by kernel_rfl) (by kernel_rfl) (fun _ _ _ h => h) (Or.inl ⟨by rfl, ?ye25⟩) HSwd1.out ?re25
    case ye25 => (intro w' hSw; clear hSw; go_simp; try with_reducible rfl)
    simp only [List.getElem_toArray, List.getElem_cons_succ, List.getElem_cons_zero, Act.put, List.setIfInBounds_toArray, List.set_cons_zero, List.set_cons_succ]
    refine wpAnyH_take (i := 3) (v := ?ve26) rfl (by kernel_rfl) (by kernel_rfl) (by kernel_rfl) (fun _ _ _ h => h) (Or.inl ⟨by rfl, ?ye26⟩) HSwd1.out ?re26
    case ye26 => (intro w' hSw; clear hSw; go_simp; try with_reducible rfl)
    simp only [List.getElem_toArray, List.getElem_cons_succ, List.getElem_cons_zero, Act.put, List.setIfInBounds_toArray, List.set_cons_zero, List.set_cons_succ]
    refine wpAnyH_take (i := 4) (v := ?ve27) rfl (by kernel_rfl) (by kernel_rfl) (by kernel_rfl) (fun _ _ _ h => h) (Or.inl ⟨by rfl, ?ye27⟩) HSwd1.out ?re27
    case ye27 => (intro w' hSw; clear hSw; go_simp; try with_reducible rfl)
    simp only [List.getElem_toArray, List.getElem_cons_succ, List.getElem_cons_zero, Act.put, List.setIfInBounds_toArray, List.set_cons_zero, List.set_cons_succ]
    refine wpAnyH_take (i := 5) (v := ?ve28) rfl (by kernel_rfl) (by kernel_rfl) (by kernel_rfl) (fun _ _ _ h => h) (Or.inl ⟨by rfl, ?ye28⟩) HSwd1.out ?re28
    case ye28 => (intro w' hSw; obtain ⟨t0, t1⟩ := hSw.tr.cs; clear hSw; go_simp; try with_reducible rfl)
    simp only [List.getElem_toArray, List.getElem_cons_succ, List.getElem_cons_zero, Act.put, List.setIfInBounds_toArray, List.set_cons_zero, List.set_cons_succ]
    refine wpAnyH_take (i := 6) (v := ?ve29) rfl (by kernel_rfl) (by kernel_rfl) (by kernel_rfl) (fun _ _ _ h => h) (Or.inl ⟨by rfl, ?ye29⟩) HSwd1.out ?re29
    case ye29 => (intro w' hSw; clear hSw; go_simp; try with_reducible rfl)
    simp only [List.getElem_toArray, List.getElem_cons_succ, List.getElem_cons_zero, Act.put, List.setIfInBounds_toArray, List.set_cons_zero, List.set_cons_succ]
    refine wpAnyH_take (i := 7) (v := ?ve30) rfl (by kernel_rfl) (by kernel_rfl) (by kernel_rfl) (fun _ _ _ h => h) (Or.inl ⟨by rfl, ?ye30⟩) HSwd1.out ?re30
    case ye30 => (intro w' hSw; obtain ⟨t0, t1⟩ := hSw.tr.cs; clear hSw; go_simp; try with_reducible rfl)
    simp only [List.getElem_toArray, List.getElem_cons_succ, List.getElem_cons_zero, Act.put, List.setIfInBounds_toArray, List.set_cons_zero, List.set_cons_succ]
    refine wpAnyH_ready (rs := [8]) (by kernel_rfl) (by simp) ?_
    refine AllReadyH.cons rfl (fun K' hK => ?_) AllReadyH.nil
    simp only [List.getElem_toArray, List.getElem_cons_succ, List.getElem_cons_zero]
    go_simp
    refine (CL.out _).mono ?_
    rintro e' u1 ⟨rfl, rfl⟩
    refine hK.out _ _ HSwd1.out (fun _ => ?_)
    clear hK
    try simp only [List.getElem_toArray, List.getElem_cons_succ, List.getElem_cons_zero, Act.put, List.setIfInBounds_toArray, List.set_cons_zero, List.set_cons_succ]
    refine wpAnyH_take (i := 9) (v := ?ve31) rfl (by kernel_rfl) (by kernel_rfl) (by kernel_rfl) (fun _ _ _ h => h) (Or.inl ⟨by rfl, ?ye31⟩) HSwd1.out ?re31
    case ye31 => (intro w' hSw; clear hSw; go_simp; try with_reducible rfl)
    simp only [List.getElem_toArray, List.getElem_cons_succ, List.getElem_cons_zero, Act.put, List.setIfInBounds_toArray, List.set_cons_zero, List.set_cons_succ]
    refine wpAnyH_ready (rs := [10]) (by kernel_rfl) (by simp) ?_
    refine AllReadyH.cons rfl (fun K' hK => ?_) AllReadyH.nil
    simp only [List.getElem_toArray, List.getElem_cons_succ, List.getElem_cons_zero]
    go_simp
    refine (CH.out _ HSwd1.out.bl).mono ?_
    rintro e' u2 ⟨rfl, hb⟩
    have HSu2 := Lib.hid (HSwd1.out.below hb); have HOu2 := Lib.hid (HOwd1.out.below hb HOwd1.out.lt)
    clear hb
    refine hK.out _ _ HSu2.out (fun _ => ?_)
    clear hK
    try simp only [List.getElem_toArray, List.getElem_cons_succ, List.getElem_cons_zero, Act.put, List.setIfInBounds_toArray, List.set_cons_zero, List.set_cons_succ]
    refine wpAnyH_take (i := 11) (v := ?ve32) rfl (by kernel_rfl) (by kernel_rfl) (by kernel_rfl) (fun _ _ _ h => h) (Or.inl ⟨by rfl, ?ye32⟩) HSu2.out ?re32
    case ye32 => (intro w' hSw; clear hSw; go_simp; try with_reducible rfl)
    simp only [List.getElem_toArray, List.getElem_cons_succ, List.getElem_cons_zero, Act.put, List.setIfInBounds_toArray, List.set_cons_zero, List.set_cons_succ]
    refine wpAnyH_done (by kernel_rfl) ?_ _
    change Exit.then _ _ Exit.normal _ _
    clear hW2
    obtain ⟨t0, t1⟩ := HSu2.out.tr.cs
    have HSwd4 : Hid (PrS (e : Int) (some ad) n c w u2.drew) := Lib.hid ⟨HSu2.out.tr, HSu2.out.bl.drew⟩
    have HOwd4 : Hid (TrB 0 none 0 0 u2.drew (w.heap.size + 1)) := HOu2
    go_wp2_with fail
    clear t0 t1
    try simp only [Act.put]
    refine Wr.region_calm ?_
    refine wp_region_any (by kernel_rfl) ?_
    change wpAny _ _ _ _ _ _ _ (World.drew u2)
    generalize World.drew u2 = wd4 at *
    refine wpAny_of_held (S := fun W => PrS (e : Int) (some ad) n c w W) _ _ _ _ ?_
    refine wpAnyH_take (i := 0) (v := ?ve33) rfl (by kernel_rfl) (by kernel_rfl) (by kernel_rfl) (fun _ _ _ h => h) (Or.inl ⟨by rfl, ?ye33⟩) HSwd4.out ?re33
    case ye33 => (intro w' hSw; clear hSw; go_simp; try with_reducible rfl)
    simp only [List.getElem_toArray, List.getElem_cons_succ, List.getElem_cons_zero, Act.put, List.setIfInBounds_toArray, List.set_cons_zero, List.set_cons_succ]
    refine wpAnyH_take (i := 1) (v := ?ve34) rfl (by kernel_rfl) (by kernel_rfl) (by kernel_rfl) (fun _ _ _ h => h) (Or.inl ⟨by rfl, ?ye34⟩) HSwd4.out ?re34
    case ye34 => (intro w' hSw; clear hSw; go_simp; try with_reducible rfl)
    simp only [List.getElem_toArray, List.getElem_cons_succ, List.getElem_cons_zero, Act.put, List.setIfInBounds_toArray, List.set_cons_zero, List.set_cons_succ]
    refine wpAnyH_take (i := 2) (v := ?ve35) rfl (by kernel_rfl) (by kernel_rfl) (by kernel_rfl) (fun _ _ _ h => h) (Or.inl ⟨by rfl, ?ye35⟩) HSwd4.out ?re35
    case ye35 => (intro w' hSw; obtain ⟨t0, t1⟩ := hSw.tr.cs; clear hSw; go_simp; try with_reducible rfl)
    simp only [List.getElem_toArray, List.getElem_cons_succ, List.getElem_cons_zero, Act.put, List.setIfInBounds_toArray, List.set_cons_zero, List.set_cons_succ]
    refine wpAnyH_take (i := 3) (v := ?ve36) rfl (by kernel_rfl) (by kernel_rfl) (by kernel_rfl) (fun _ _ _ h => h) (Or.inl ⟨by rfl, ?ye36⟩) HSwd4.out ?re36
    case ye36 => (intro w' hSw; clear hSw; go_simp; try with_reducible rfl)
    simp only [List.getElem_toArray, List.getElem_cons_succ, List.getElem_cons_zero, Act.put, List.setIfInBounds_toArray, List.set_cons_zero, List.set_cons_succ]
    refine wpAnyH_ready (rs := [4]) (by kernel_rfl) (by simp) ?_
    refine AllReadyH.cons rfl (fun K' hK => ?_) AllReadyH.nil
    simp only [List.getElem_toArray, List.getElem_cons_succ, List.getElem_cons_zero]
    go_simp
    refine (CN.out _).mono ?_
    rintro e' u3 ⟨rfl, rfl⟩
    refine hK.out _ _ HSwd4.out (fun _ => ?_)
    clear hK
    try simp only [List.getElem_toArray, List.getElem_cons_succ, List.getElem_cons_zero, Act.put, List.setIfInBounds_toArray, List.set_cons_zero, List.set_cons_succ]
    refine wpAnyH_take (i := 5) (v := ?ve37) rfl (by kernel_rfl) (by kernel_rfl) (by kernel_rfl) (fun _ _ _ h => h) (Or.inl ⟨by rfl, ?ye37⟩) HSwd4.out ?re37
    case ye37 => (intro w' hSw; clear hSw; go_simp; try with_reducible rfl)
    simp only [List.getElem_toArray, List.getElem_cons_succ, List.getElem_cons_zero, Act.put, List.setIfInBounds_toArray, List.set_cons_zero, List.set_cons_succ]
    refine wpAnyH_ready (rs := [6]) (by kernel_rfl) (by simp) ?_
    refine AllReadyH.cons rfl (fun K' hK => ?_) AllReadyH.nil
    simp only [List.getElem_toArray, List.getElem_cons_succ, List.getElem_cons_zero]
    go_simp
    refine (CC.out _).mono ?_
    rintro e' u4 ⟨rfl, rfl⟩
    refine hK.out _ _ HSwd4.out (fun _ => ?_)
    clear hK
    try simp only [List.getElem_toArray, List.getElem_cons_succ, List.getElem_cons_zero, Act.put, List.setIfInBounds_toArray, List.set_cons_zero, List.set_cons_succ]
    refine wpAnyH_take (i := 7) (v := ?ve38) rfl (by kernel_rfl) (by kernel_rfl) (by kernel_rfl) (fun _ _ _ h => h) (Or.inl ⟨by rfl, ?ye38⟩) HSwd4.out ?re38
    case ye38 => (intro w' hSw; clear hSw; go_simp; try with_reducible rfl)
    simp only [List.getElem_toArray, List.getElem_cons_succ, List.getElem_cons_zero, Act.put, List.setIfInBounds_toArray, List.set_cons_zero, List.set_cons_succ]
    refine wpAnyH_ready (rs := [8]) (by kernel_rfl) (by simp) ?_
    refine AllReadyH.cons rfl (fun K' hK => ?_) AllReadyH.nil
    simp only [List.getElem_toArray, List.getElem_cons_succ, List.getElem_cons_zero]
    go_simp
    refine (IH.out _ HSwd4.out.bl).mono ?_
    rintro e' u5 ⟨n5, c5, rfl, hN5, hb⟩
    have HSu5 := Lib.hid (HSwd4.out.below hb); have HOu5 := Lib.hid (HOwd4.out.below hb HOwd4.out.lt); have HN5 := Lib.hid hN5
    clear hb hN5
    refine hK.out _ _ HSu5.out (fun _ => ?_)
    clear hK
    try simp only [List.getElem_toArray, List.getElem_cons_succ, List.getElem_cons_zero, Act.put, List.setIfInBounds_toArray, List.set_cons_zero, List.set_cons_succ]
    refine wpAnyH_ready (rs := [9]) (by kernel_rfl) (by simp) ?_
    refine AllReadyH.cons rfl (fun K' hK => ?_) AllReadyH.nil
    simp only [List.getElem_toArray, List.getElem_cons_succ, List.getElem_cons_zero]
    rw [if_pos (by rfl)]
    refine wp_store_row 24 (.tmp 2) (.tmp 28) rfl (w.heap.size + 1) #[.int .i64 (z5 : Nat), .slice (some ad) n5 c5] rfl rfl 24 #[.int .i64 0, .slice none 0 0] HOu5.out (tr_sized _ _ _ _) rfl (tr_all _ _ _ _) ?_
    have HQZ := Lib.hid (setRow_heap u5 (w.heap.size + 1) _ #[.int .i64 (z5 : Nat), .slice (some ad) n5 c5] 24 _ HOu5.out)
    have HSv := Lib.hid (show PrS (e : Int) (some ad) n c w (u5.setRow (w.heap.size + 1) #[.int .i64 (z5 : Nat), .slice (some ad) n5 c5]) from ⟨(setRow_other u5 _ _ _ (by omega)).trans HSu5.out.tr, below_setRow HSu5.out.bl (by omega) _⟩)
    refine hK.out _ _ HSv.out (fun _ => ?_)
    clear hK
    try simp only [List.getElem_toArray, List.getElem_cons_succ, List.getElem_cons_zero, Act.put, List.setIfInBounds_toArray, List.set_cons_zero, List.set_cons_succ]
    refine wpAnyH_done (by kernel_rfl) ?_ _
    change Exit.then _ _ Exit.normal _ _
    go_wp2_with fail
    refine bodyPost_ret (v := .agg #[.int .i64 (z5 : Nat), .slice (some ad) n5 c5]) (results_cell_row (p := 2) (ty := 24) (by kernel_rfl) _ _ (w.heap.size + 1) 24 #[.int .i64 (z5 : Nat), .slice (some ad) n5 c5] (0, 0) _ rfl HQZ.out Tryz.underlying24 rfl (tr_sized _ _ _ _)) rfl ?_
    refine ⟨n5, c5, ?_, ?_, HSv.out.bl⟩
    · rw [HCUT.out, if_neg (by simp), HZ5.out]
    · obtain ⟨h1, h2, h3, h4⟩ := HN5.out
      have h5 := HM1.out
      refine ⟨by omega, h2, h3, ?_⟩
      rw [HCUT.out, if_neg (by simp), h4, List.take_take, Nat.min_eq_left (by omega)]
theorem cut_is : ∀ (d : Nat) (ns : List Nd), CutC d ns
  | 0, ns => cut_zero ns
  | d + 1, ns => cut_succ d ns (cut_is d _)
end Go.Proofs.YtakglldffpnlaaaGreatDoor.Rt
