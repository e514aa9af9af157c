/- Walks: the document's Leaves, Resolve and Sum. Written by tools/mk_rttells.py. -/
import Derived.Test.YtakglldffpnlaaaGreatDoorRtSame
import Derived.Test.YtakglldffpnlaaaGreatDoorRtRefS
namespace Go.Proofs.YtakglldffpnlaaaGreatDoor.Rt
set_option linter.all false
open Go.RowKit Wr

set_option maxHeartbeats 4000000 in
set_option maxRecDepth 100000 in
theorem refLeaves_any (D : Int) (A : Option Addr) (n c : Nat) (ns : List Nd) (w : World) (hN : Nodes Any Any w A n c ns) :
    Calls Tryz.prog 21 #[.agg #[.int .i64 D, .slice A n c]] w (ToldI (leavesT D ns) w) := by
  obtain ⟨W0, hW0, g1, hB0⟩ := one_new w D A n c
  have B0 := Lib.hid hB0
  have G1 := Lib.hid g1
  have hN0 := hN.below hB0
  obtain ⟨q0, q1⟩ := g1.cs
  have hlt := g1.lt
  clear hB0 g1 hN
  by_cases hr : RightT D ns
  · have C1 := Lib.hid (refRight_is D A n c ns true W0 hN0 (by simp [hr]))
    obtain ⟨d, rfl, hR⟩ := hr
    rw [leavesT_yes hR]
    have hd := hR.deep
    have hd16 : d ≤ 16 := by omega
    have HN := Lib.hid hN0
    have hnl : n = 2 ^ (d + 1) - 1 := by rw [← hN0.len, hR.len]
    have hn63 : n ≤ 9223372036854775807 := by have h1 := hN0.2.1; have h2 := hN0.2.2.1; omega
    obtain ⟨m1, m2⟩ := pow_bd d (by omega)
    unfold leavesF
    have e2 : 2 ^ (d + 1) = 2 * 2 ^ d := by rw [Nat.pow_succ]; omega
    obtain ⟨m, hm⟩ : ∃ m, 2 ^ d = m := ⟨_, rfl⟩
    have x1 : (2 : Int) ^ d = (m : Int) := by rw [← hm]; simp
    rw [hm] at m1 m2 e2 ⊢
    rw [e2] at hnl
    have HNL := Lib.hid hnl
    have x3 : IntKind.i64.wrap (m : Int) = m := by rw [IntKind.wrap_i64]; omega
    clear hm hR hN0 hd e2 hnl
    go_enter Tryz.func21, Tryz.ntmps21
    go_wp2_with (first | (go_at_call 19; refine C1.out.mono ?_; rintro e' w2 ⟨rfl, hb2⟩; have HW2 := Lib.hid (B0.out.trans (hb2.mono B0.out.size)); have G2 := Lib.hid (G1.out.below hb2 hlt); have HN2 := Lib.hid (HN.out.below hb2); obtain ⟨t0, t1⟩ := (G1.out.below hb2 hlt).cs; clear hb2 q0 q1) | go_in)
    clear t0 t1
    have hlt2 := G2.out.lt
    go_loopw [4, 5] (fun v i W => ∃ (k q : Nat) (C : Option Addr) (cc : Nat), k ≤ m ∧ q ≤ k ∧ i = .int .i64 k ∧ v = .slice C q cc ∧ Hid (W.ownsRow w2.heap.size 3 1 (.slice C q cc) q (icells (leavesTo ns k))) ∧ Hid (Below w2.heap.size w2 W)) (fun v i _ => m - (intOf i).toNat)
    case atStart => exact ⟨0, 0, none, 0, by omega, by omega, rfl, rfl, Lib.hid (nil_ints _ _), Lib.hid (Below.refl _ _)⟩
    case round =>
      obtain ⟨k, q, C, cc, hk, hqk, rfl, rfl, HO, HW⟩ := hrel
      have HBw := Lib.hid (HW2.out.trans (HW.out.mono HW2.out.size))
      obtain ⟨q0, q1⟩ := (G2.out.below HW.out hlt2).cs
      by_cases hkm : k < m
      · have yk : (k : Int) < (m : Int) := by omega
        have hnl := HNL.out
        obtain ⟨ad, rfl⟩ := HN.out.some (by omega)
        obtain ⟨j, hj⟩ : ∃ j, 2 * k = j := ⟨_, rfl⟩
        obtain ⟨qq, hat, his⟩ := (HN2.out.below HW.out).at j (by omega)
        have c0 := hat.cells.1
        have hk2 := his.k
        have hjn : (j : Int) < (n : Int) := by omega
        have x4 : 2 * (k : Int) = (j : Int) := by omega
        clear hat his hnl
        generalize qq.k = kd at c0 hk2
        by_cases hkd : kd = 0
        · have ykd : (kd != 0) = false := by simp [hkd]
          have e1 : leavesTo ns (k + 1) = leavesTo ns k := by rw [leavesTo, hj, if_pos (by rw [← hk2]; exact hkd), List.append_nil]
          have E1 := Lib.hid e1
          clear hkd e1 hk2 hj
          go_wp2
          go_roundw
          case rel => exact ⟨k + 1, q, C, cc, by omega, by omega, by go_num, rfl, Lib.hid (by rw [E1.out]; exact HO.out), HW⟩
          case measure => simp [intOf]; omega
        · have ykd : (kd != 0) = true := by simp [hkd]
          have e1 : leavesTo ns (k + 1) = leavesTo ns k ++ [(k : Int)] := by rw [leavesTo, hj, if_neg (by rw [← hk2]; exact hkd)]
          have E1 := Lib.hid e1
          clear hkd e1 hk2 hj
          go_wp2_with (first
            | (at_builtin; refine wpList_append_ints rfl (.tmp 25) (.tmp 27) rfl w2.heap.size q 1 1 _ (leavesTo ns k) [(k : Int)] (some ⟨wr.heap.size, 0, none⟩) Any rfl rfl (HO.out.alloc _) (one_int wr k) (by omega) (by have := HW.out.size; simp; omega) ?_)
            | go_in)
          intro v' w5 hown hgrow hat
          obtain ⟨C', c', rfl⟩ := own_sliceG hown
          have HB5 := Lib.hid (below_ownG (HW.out.alloc (HW.out.size) (.cells #[.int .i64 (k : Int)] 3)) (HO.out.alloc _) (Nat.le_refl _) hgrow)
          have HO5 := Lib.hid hown
          clear hown hgrow hat
          go_wp2
          go_roundw
          case rel => exact ⟨k + 1, q + 1, C', c', by omega, by omega, by go_num, rfl, Lib.hid (by rw [E1.out]; exact HO5.out), HB5⟩
          case measure => simp [intOf]; omega
      · have yk : ¬ (k : Int) < (m : Int) := by omega
        obtain rfl : k = m := by omega
        go_wp2
        go_ret
        exact ⟨C, q, cc, rfl, (Ints.of_own HO.out).mono fun b hb => ⟨Nat.le_trans HW2.out.size hb.1, hb.2⟩, HBw.out⟩
  · have C1 := Lib.hid (refRight_is D A n c ns false W0 hN0 (by simp [hr]))
    rw [leavesT_no hr]
    clear hN0 hr
    go_enter Tryz.func21, Tryz.ntmps21
    go_wp2_with (first | (go_at_call 19; refine C1.out.mono ?_; rintro e' w2 ⟨rfl, hb2⟩; have HW2 := Lib.hid (B0.out.trans (hb2.mono B0.out.size)); clear hb2) | go_in)
    go_ret
    exact ⟨none, 0, 0, rfl, Ints.nil _ _, HW2.out⟩


end Go.Proofs.YtakglldffpnlaaaGreatDoor.Rt
