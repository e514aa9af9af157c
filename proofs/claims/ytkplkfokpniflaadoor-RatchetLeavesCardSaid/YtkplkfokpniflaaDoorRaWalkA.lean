/- Walks: slices.Clone, areRight, Right. -/
import Derived.Test.YtkplkfokpniflaaDoorRaMem
import Derived.Deep.DrawnRows
namespace Go.Proofs.YtkplkfokpniflaaDoor.Ra
set_option linter.all false
open Go.RowKit
open Wr (Txt Any New bcells gt own_slice_of below_own wpList_append_txt)

set_option maxHeartbeats 2000000 in
set_option maxRecDepth 100000 in
theorem clone_any (A : Option Addr) (b : List Nat) (n c : Nat) (w : World) (hA : Txt Any w A n c b) (hn : n ≤ 1000000) :
    Calls Tryd.prog 21 #[.slice A n c] w (Wr.Told b w) := by
  cases A with
  | none =>
    have hc := hA.2.2.2.2.1 rfl
    have hnc := hA.2.2.1
    subst hc
    obtain rfl : n = 0 := by omega
    obtain rfl : b = [] := List.eq_nil_of_length_eq_zero hA.len
    have hnil : ∀ W : World, (binOp .eql 22 (.slice none 0 0) (.slice none 0 0)).run Tryd.prog W = .ok (.bool true) W := fun W => run_eql_nil_slice W 22 5 none 0 0 0 0 Tryd.underlying22
    clear hA hnc
    go_enter Tryd.func21, Tryd.ntmps21
    go_wp2
    go_ret
    exact ⟨_, _, _, rfl, Txt.nil _ _, Below.refl _ _⟩
  | some ad =>
    have HA := Lib.hid hA
    have HNIL := Lib.hid (Wr.nil_own w (base := w.heap.size) (Nat.le_refl _))
    have HB1 := Lib.hid ((Below.refl w.heap.size w).alloc (Nat.le_refl _) (.cells #[] 5))
    have HA1 := Lib.hid (HA.out.below HB1.out)
    clear hA
    have hnil : ∀ W : World, (binOp .eql 22 (.slice (some ad) n c) (.slice none 0 0)).run Tryd.prog W = .ok (.bool false) W := fun W => run_eql_nil_slice W 22 5 (some ad) n c 0 0 Tryd.underlying22
    go_enter Tryd.func21, Tryd.ntmps21
    go_wp2_with (at_builtin; refine wpList_append_txt rfl (.tmp 5) (.tmp 6) rfl w.heap.size 0 n c _ [] b (some ad) Any rfl rfl HNIL.out HA1.out (by omega) HB1.out.size ?_)
    intro v' W2 hown hgrow hat
    obtain ⟨C', c', rfl⟩ := own_slice_of hown
    have HO3 := Lib.hid hown; have HB3 := Lib.hid (below_own HB1.out HNIL.out (Nat.le_refl _) hgrow); clear hown hgrow hat
    go_wp2
    go_ret
    obtain ⟨A', c'', e, hX⟩ := Txt.of_own HO3.out HA.out.lt
    injection e with e1 _ e3
    subst e1 e3
    refine ⟨_, _, _, rfl, ?_, HB3.out⟩
    exact hX

theorem rise_step {ks : List Kd} {last gen : Int} {k : Nat} {b : Bool} (h : rise last gen (ks.drop k) = b) (hk : k < ks.length) : ((decide (last < (kd ks k).g) && decide ((kd ks k).g < gen) && (kd ks k).key.length == 32) && rise (kd ks k).g gen (ks.drop (k + 1))) = b := by
  rw [kd_drop ks k hk] at h; exact h

set_option maxHeartbeats 2000000 in
set_option maxRecDepth 100000 in
theorem areRight_is (K : Option Addr) (n c : Nat) (ks : List Kd) (gen : Int) (b : Bool) (w : World) (hK : Kds Any w K n c ks) (hb : rise (-1) gen ks = b) :
    Calls Tryd.prog 27 #[.slice K n c, .int .i64 gen] w fun e w' => e = .returned (.bool b) ∧ Below w.heap.size w w' := by
  have HK := Lib.hid hK; have HBB := Lib.hid hb
  have hn63 : n ≤ 9223372036854775807 := by have h1 := hK.2.1; have h2 := hK.2.2.1; omega
  clear hK hb
  go_enter Tryd.func27, Tryd.ntmps27
  go_wp2_with fail
  go_loopw [5, 10] (fun x v W => ∃ (k : Nat) (last : Int), k ≤ n ∧ x = .int .i64 last ∧ v = .int .i64 k ∧ Hid (rise last gen (ks.drop k) = b) ∧ Hid (Below w.heap.size w W)) (fun _ v _ => n - (intOf v).toNat)
  case atStart => exact ⟨0, -1, by omega, rfl, rfl, HBB, Lib.hid (Below.refl _ _)⟩
  case round =>
    obtain ⟨k, last, hk, rfl, rfl, HR, HW⟩ := hrel
    by_cases hkn : k < n
    case neg =>
      have yk : ¬ (k : Int) < (n : Int) := by omega
      obtain rfl : b = true := by rw [← HR.out, List.drop_eq_nil_of_le (by rw [HK.out.len]; omega)]; rfl
      go_wp2
      go_ret
      exact ⟨rfl, HW.out⟩
    have yk : (k : Int) < (n : Int) := by omega
    obtain ⟨ad, rfl⟩ := HK.out.some (by omega)
    obtain ⟨⟨g, A, m, cc⟩, hat, his⟩ := (HK.out.below HW.out).at k hkn
    obtain ⟨c0, c1⟩ := hat.cells
    have HS := Lib.hid (rise_step HR.out (by rw [HK.out.len]; exact hkn))
    have hg := his.g; have hl := his.key.len
    dsimp only at hg hl c0 c1
    have HH := Lib.hid hg; have HL := Lib.hid hl
    have HW1 := Lib.hid (HW.out.trans ((Below.refl wr.heap.size wr).alloc (Nat.le_refl _) (.cells #[.int .i64 g, .slice A m cc] 44) |>.mono HW.out.size))
    clear hat his hg hl HR
    by_cases h1 : g ≤ last
    · obtain rfl : b = false := by rw [← HS.out, ← HH.out, decide_eq_false (show ¬ last < g by omega)]; rfl
      go_wp2
      go_ret
      exact ⟨rfl, HW1.out⟩
    by_cases h2 : gen ≤ g
    · obtain rfl : b = false := by rw [← HS.out, ← HH.out, decide_eq_false (show ¬ g < gen by omega)]; simp
      go_wp2
      go_ret
      exact ⟨rfl, HW1.out⟩
    by_cases h3 : m = 32
    · have y3 : ((m : Int) != 32) = false := by rw [h3]; rfl
      have HR1 : Hid (rise g gen (ks.drop (k + 1)) = b) := Lib.hid (by rw [← HS.out, ← HH.out, HL.out, decide_eq_true (show last < g by omega), decide_eq_true (show g < gen by omega), h3]; simp)
      clear h3 HS
      go_wp2
      go_roundw
      case rel => exact ⟨k + 1, g, by omega, rfl, by go_num, HR1, HW1⟩
      case measure => simp [intOf]; omega
    · have y3 : ((m : Int) != 32) = true := by rw [bne_iff_ne]; omega
      obtain rfl : b = false := by rw [← HS.out, HL.out, show (m == 32) = false by simpa using h3]; simp
      clear h3
      go_wp2
      go_ret
      exact ⟨rfl, HW1.out⟩

theorem one_rk (w : World) (q : RkQ) : ∃ W, w.alloc (.cells q.cs 25) = W ∧ RkB q W w.heap.size ∧ Below w.heap.size w W :=
  ⟨_, rfl, RkB.new q w, (Below.refl _ _).alloc (Nat.le_refl _) _⟩
set_option maxHeartbeats 2000000 in
set_option maxRecDepth 100000 in
theorem right_is (q : RkQ) (r : Rk) (b : Bool) (w : World) (hq : RkIs Any w q r) (hb : rightR r = b) :
    Calls Tryd.prog 15 #[.agg q.cs] w fun e w' => e = .returned (.bool b) ∧ Below w.heap.size w w' := by
  obtain ⟨W0, hW0, g1, hB0⟩ := one_rk w q
  have B0 := Lib.hid hB0
  obtain ⟨ar, har⟩ : ∃ ar, rise (-1) r.gen r.kept = ar := ⟨_, rfl⟩
  have CA := Lib.hid (areRight_is q.K q.nk q.ck r.kept r.gen ar W0 (hq.kept.below hB0) har)
  have hg := hq.g; have hs := hq.sec.len; have hl := hq.kept.len
  have HBB : Hid ((decide (0 ≤ q.g) && decide (q.g ≤ 1073741824) && (q.n == 32) && decide (q.nk ≤ 16) && ar) = b) := Lib.hid (by rw [← hb, ← har, ← hs, ← hl, hg]; rfl)
  rw [← hg] at CA
  obtain ⟨s0, s1, s2⟩ := g1.cs
  obtain ⟨g, A, n, c, K, nk, ck⟩ := q
  dsimp only at *
  clear hq hb hg hs hl har hB0 g1
  by_cases h1 : 0 ≤ g
  case neg =>
    obtain rfl : b = false := by rw [← HBB.out, decide_eq_false h1]; rfl
    go_enter Tryd.func15, Tryd.ntmps15
    go_wp2
    go_ret
    exact ⟨rfl, B0.out⟩
  by_cases h2 : g ≤ 1073741824
  case neg =>
    obtain rfl : b = false := by rw [← HBB.out, decide_eq_false h2]; simp
    go_enter Tryd.func15, Tryd.ntmps15
    go_wp2
    go_ret
    exact ⟨rfl, B0.out⟩
  by_cases h3 : n = 32
  case neg =>
    obtain rfl : b = false := by rw [← HBB.out, show (n == 32) = false by simpa using h3]; simp
    have y3 : ((n : Int) == 32) = false := by rw [beq_eq_false_iff_ne]; omega
    clear h3
    go_enter Tryd.func15, Tryd.ntmps15
    go_wp2
    go_ret
    exact ⟨rfl, B0.out⟩
  have y3 : ((n : Int) == 32) = true := by rw [h3]; rfl
  by_cases h4 : nk ≤ 16
  case neg =>
    obtain rfl : b = false := by rw [← HBB.out, decide_eq_false h4]; simp
    have y4 : ¬ (nk : Int) ≤ 16 := by omega
    clear h3 h4
    go_enter Tryd.func15, Tryd.ntmps15
    go_wp2
    go_ret
    exact ⟨rfl, B0.out⟩
  have y4 : (nk : Int) ≤ 16 := by omega
  obtain rfl : ar = b := by rw [← HBB.out, decide_eq_true h1, decide_eq_true h2, decide_eq_true h4, h3]; simp
  clear h3 h4 HBB
  go_enter Tryd.func15, Tryd.ntmps15
  go_wp2_with (first | (go_at_call 27; refine CA.out.mono ?_; rintro e' w4 ⟨rfl, hb4⟩; have HW4 := Lib.hid (B0.out.trans (hb4.mono B0.out.size)); clear hb4) | go_in)
  go_ret
  exact ⟨rfl, HW4.out⟩
end Go.Proofs.YtkplkfokpniflaaDoor.Ra
