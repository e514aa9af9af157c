/- Walks: isLeaf, slices.IndexFunc and ContainsFunc over nodes, slices.Clip of nodes. Written by tools/mk_rtcut.py. -/
import Derived.Test.YtakglldffpnlaaaGreatDoorRtWalkT
import Derived.Test.YtakglldffpnlaaaGreatDoorRtRefT
import Derived.Deep.Slices
import Derived.Deep.Fields
namespace Go.Proofs.YtakglldffpnlaaaGreatDoor.Rt
set_option linter.all false
open Go.RowKit
open Wr (Txt Any New)

theorem nodes_sub {w : World} {ad : Addr} {n c : Nat} {ns : List Nd} (h : Nodes Any Any w (some ad) n c ns) (k m : Nat) (hk : k + m ≤ n) (c' : Nat) (hc : m ≤ c') (hc9 : c' ≤ 9223372036854775807) : Nodes Any Any w (some (ad.add (k * 6))) m c' ((ns.drop k).take m) := by
  obtain ⟨h1, h2, h3, h4, h5, h6⟩ := h
  have hbl : (ad.add (k * 6)).block = ad.block := by unfold Addr.add; split <;> rfl
  refine ⟨by rw [List.length_take, List.length_drop]; omega, hc, hc9, fun e => (by cases e), fun a e => ?_, fun a e j hj => ?_⟩
  · injection e with e; subst e
    exact ⟨trivial, fun hm => by rw [hbl]; exact (h5 ad rfl).2 (by omega)⟩
  · injection e with e; subst e
    obtain ⟨q, q1, q2⟩ := h6 ad rfl (k + j) (by omega)
    refine ⟨q, ?_, ?_⟩
    · rw [Go.Deep.add_add, show k * 6 + j * 6 = (k + j) * 6 by omega]; exact q1
    · have e : nd ((ns.drop k).take m) j = nd ns (k + j) := by
        unfold nd
        rw [List.getD_eq_getElem?_getD, List.getD_eq_getElem?_getD, List.getElem?_take_of_lt hj, List.getElem?_drop]
      rw [e]; exact q2
set_option maxHeartbeats 1000000 in
theorem isLeafN_is (q : NdQ) (w : World) : Calls Tryz.prog 66 #[.agg q.cs] w fun e w' => e = .returned (.bool (q.k == 1)) ∧ Below w.heap.size w w' := by
  obtain ⟨k, A1, n1, c1, A2, n2, c2, A3, n3, c3, A4, n4, c4, A5, n5, c5⟩ := q
  dsimp only [NdQ.cs]
  go_enter Tryz.func66, Tryz.ntmps66
  go_wp2
  go_ret
  exact ⟨rfl, below_one _ _⟩
set_option maxHeartbeats 2000000 in
set_option maxRecDepth 100000 in
theorem indexN_is (A : Option Addr) (n c : Nat) (ns : List Nd) (b : Bool) (w : World) (hN : Nodes Any Any w A n c ns) (hb : ns.any (fun m => m.kind == 1) = b) :
    Calls Tryz.prog 94 #[.slice A n c, .func (.func 66) #[] #[]] w fun e w' => ∃ z : Int, e = .returned (.int .i64 z) ∧ (0 ≤ z ↔ b = true) ∧ Below w.heap.size w w' := by
  have HN := Lib.hid hN; have HBB := Lib.hid hb
  have hn63 : n ≤ 9223372036854775807 := by have h1 := hN.2.1; have h2 := hN.2.2.1; omega
  clear hN hb
  go_enter Tryz.func94, Tryz.ntmps94
  go_wp2_with fail
  go_loopw [8] (fun v W => ∃ k : Nat, k ≤ n ∧ v = .int .i64 k ∧ Hid (∀ j, j < k → (nd ns j).kind ≠ 1) ∧ Hid (Below w.heap.size w W)) (fun v _ => n - (intOf v).toNat)
  case atStart => exact ⟨0, by omega, rfl, Lib.hid fun j h => absurd h (by omega), Lib.hid (Below.refl _ _)⟩
  case round =>
    obtain ⟨k, hk, rfl, HE, HW⟩ := hrel
    by_cases hkn : k < n
    case neg =>
      have yk : ¬ (k : Int) < (n : Int) := by omega
      have HF := Lib.hid (show (0 : Int) ≤ -1 ↔ b = true by
        rw [← HBB.out]
        constructor
        · intro h; omega
        · intro h
          obtain ⟨m, h1, h2⟩ := List.any_eq_true.1 h
          obtain ⟨j, h3, h4⟩ := List.getElem_of_mem h1
          exfalso
          refine HE.out j (by rw [HN.out.len] at h3; omega) ?_
          unfold nd
          rw [List.getD_eq_getElem?_getD, List.getElem?_eq_getElem h3]
          show ns[j].kind = 1
          rw [h4]; simpa using h2)
      go_wp2
      go_ret
      exact ⟨-1, rfl, HF.out, HW.out⟩
    have yk : (k : Int) < (n : Int) := by omega
    obtain ⟨ad, rfl⟩ := HN.out.some (by omega)
    obtain ⟨q, hat, his⟩ := (HN.out.below HW.out).at k hkn
    obtain ⟨c0, c1, c2, c3, c4, c5⟩ := hat.cells
    have CI := Lib.hid (isLeafN_is q)
    have HK := Lib.hid his.k
    clear hat his
    by_cases h1 : q.k = 1
    · have y1 : (q.k == 1) = true := by simp [h1]
      have HF := Lib.hid (show (0 : Int) ≤ (k : Int) ↔ b = true by
        rw [← HBB.out]
        constructor
        · intro _
          refine List.any_eq_true.2 ⟨nd ns k, ?_, by rw [← HK.out, h1]; rfl⟩
          unfold nd
          rw [List.getD_eq_getElem?_getD, List.getElem?_eq_getElem (by rw [HN.out.len]; exact hkn)]
          exact List.getElem_mem _
        · intro _; omega)
      rw [y1] at CI
      clear h1 y1 HK
      go_wp2_with (first | (go_at_call 66; refine (CI.out _).mono ?_; rintro e' w2 ⟨rfl, hb⟩; have HW2 := Lib.hid (HW.out.trans (hb.mono HW.out.size)); clear hb) | go_in)
      go_ret
      exact ⟨k, rfl, HF.out, HW2.out⟩
    · have y1 : (q.k == 1) = false := by simp [h1]
      have HE' : Hid (∀ j, j < k + 1 → (nd ns j).kind ≠ 1) := Lib.hid fun j hj => by
        by_cases e : j = k
        · subst e; rw [← HK.out]; exact h1
        · exact HE.out j (by omega)
      rw [y1] at CI
      clear h1 y1 HK HE
      go_wp2_with (first | (go_at_call 66; refine (CI.out _).mono ?_; rintro e' w2 ⟨rfl, hb⟩; have HW2 := Lib.hid (HW.out.trans (hb.mono HW.out.size)); clear hb) | go_in)
      go_roundw
      case rel => exact ⟨k + 1, by omega, by go_num, HE', HW2⟩
      case measure => simp [intOf]; omega
set_option maxHeartbeats 1000000 in
theorem containsN_is (A : Option Addr) (n c : Nat) (ns : List Nd) (w : World) (hN : Nodes Any Any w A n c ns) :
    Calls Tryz.prog 65 #[.slice A n c, .func (.func 66) #[] #[]] w fun e w' => e = .returned (.bool (ns.any (fun m => m.kind == 1))) ∧ Below w.heap.size w w' := by
  obtain ⟨b, hb⟩ : ∃ b, ns.any (fun m => m.kind == 1) = b := ⟨_, rfl⟩
  have HC := Lib.hid (indexN_is A n c ns b w hN hb)
  rw [hb]
  clear hN hb
  go_enter Tryz.func65, Tryz.ntmps65
  go_wp2_with fail
  refine HC.out.mono ?_
  rintro e' w2 ⟨z, rfl, hz, hb2⟩
  have HB := Lib.hid hb2
  clear hb2
  cases b with
  | true =>
    have y : (0 : Int) ≤ z := hz.2 rfl
    clear hz
    go_wp2
    go_ret
    exact ⟨rfl, HB.out⟩
  | false =>
    have y : ¬ (0 : Int) ≤ z := fun h => by have := hz.1 h; simp at this
    have Y := Lib.hid (decide_eq_false y)
    clear hz y
    go_wp2
    go_ret
    exact ⟨by show Ending.returned (.bool (decide (0 ≤ z))) = _; rw [Y.out], HB.out⟩
set_option maxHeartbeats 1000000 in
theorem clipN_is (ad : Addr) (n c : Nat) (w : World) (hnc : n ≤ c) (hc : c ≤ 9223372036854775807) :
    Calls Tryz.prog 67 #[.slice (some ad) n c] w fun e w' => e = .returned (.slice (some ad) n n) ∧ w = w' := by
  have y1 : (n : Int) ≤ (c : Int) := by omega
  go_enter Tryz.func67, Tryz.ntmps67
  go_wp2
  go_ret
  exact ⟨rfl, rfl⟩
end Go.Proofs.YtakglldffpnlaaaGreatDoor.Rt
