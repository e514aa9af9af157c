/- Walks: Grow, Concat of any parts. -/
import Derived.Test.YtfhibjpkbbbfpaaDoorBxKit
namespace Go.Proofs.YtfhibjpkbbbfpaaDoor.Bx
set_option linter.all false
open Go.RowKit Wr

theorem grow_all (n : Nat) (w : World) (hm : n ≤ 16777216) :
    Calls Tryd.prog 25 #[.slice none 0 0, .int .i64 n] w fun e w' => ∃ C c, e = .returned (.slice C 0 c) ∧ w'.ownsRow w.heap.size 5 1 (.slice C 0 c) 0 (bcells []) ∧ Below w.heap.size w w' := by
  by_cases h : 0 < n
  · exact (grow_any n w h hm).mono fun e w' ⟨g, cap, he, ho, hb⟩ => ⟨_, _, he, ho, hb⟩
  · obtain rfl : n = 0 := by omega
    go_enter Tryd.func25, Tryd.ntmps25
    go_wp2
    go_ret
    exact ⟨none, 0, rfl, World.ownsRow_nil _ _ _ _, Below.refl _ _⟩

set_option maxHeartbeats 2000000 in
set_option maxRecDepth 100000 in
theorem concat_own (ad : Addr) (cc K : Nat) (ls : List (List Nat)) (w : World) (hL : TxtL Any w (some ad) K cc ls) (hK : 0 < K) (hK8 : K ≤ 8) (hm : ls.flatten.length ≤ 4194304) :
    Calls Tryd.prog 16 #[.slice (some ad) K cc] w fun e w' => ∃ C cap, e = .returned (.slice C ls.flatten.length cap) ∧ w'.ownsRow w.heap.size 5 1 (.slice C ls.flatten.length cap) ls.flatten.length (bcells ls.flatten) ∧ Below w.heap.size w w' := by
  have hlt := (hL.2.2.2.2.1 ad rfl).2 hK
  have HL := Lib.hid hL; have HM := Lib.hid hm
  have HN := Lib.hid (fun k => flat_le (ls := ls) k)
  have HF := Lib.hid (flat_lt hL.all)
  clear hL hm
  go_enter Tryd.func16, Tryd.ntmps16
  go_wp2
  go_loopw [3, 11] (fun v i W => ∃ k T : Nat, k ≤ K ∧ i = .int .i64 k ∧ v = .int .i64 T ∧ Hid (T = (ls.take k).flatten.length) ∧ w = W) (fun _ i _ => K - (intOf i).toNat)
  case atStart => exact ⟨0, 0, by omega, rfl, rfl, Lib.hid rfl, rfl⟩
  case round =>
    obtain ⟨k, T, hk, rfl, rfl, HTk, rfl⟩ := hrel
    have hT : T ≤ 4194304 := by have := HN.out k; have := HM.out; have := HTk.out; omega
    by_cases hkK : k < K
    · obtain ⟨Aj, nj, cj, c0, hX⟩ := HL.out.2.2.2.2.2 ad rfl k hkK
      have hT2 : T + nj = (ls.take (k + 1)).flatten.length := by
        rw [flat_take (by rw [HL.out.1]; exact hkK), List.length_append, ← HTk.out, hX.len]
      have hT3 : T + nj ≤ 4194304 := by have := HN.out (k + 1); have := HM.out; omega
      have HT2 := Lib.hid hT2
      have y0 : ¬ (T : Int) + (nj : Int) < 0 := by omega
      clear hT2 hX
      go_wp2
      go_roundw
      case rel => exact ⟨k + 1, T + nj, by omega, by go_num, by go_num, HT2, True.intro⟩
      case measure => simp [intOf]; omega
    · obtain rfl : k = K := by omega
      have HTT : Hid (T = ls.flatten.length) := Lib.hid (by rw [HTk.out, List.take_of_length_le (by rw [HL.out.1]; omega)])
      clear hkK
      go_wp2_with fail
      refine (grow_all T w (by omega)).mono ?_
      rintro e' w1 ⟨C, cap, rfl, hown, hB1⟩
      have HO1 := Lib.hid hown; have HB1 := Lib.hid hB1; clear hown hB1
      go_wp2
      go_loopw [6, 27] (fun v i W => ∃ (j n c : Nat) (C : Option Addr) (xs : List Nat), j ≤ k ∧ i = .int .i64 j ∧ v = .slice C n c ∧ Hid (xs = (ls.take j).flatten) ∧ Hid (n = xs.length) ∧ n ≤ 4194304 ∧ Hid (W.ownsRow w.heap.size 5 1 (.slice C n c) n (bcells xs)) ∧ Hid (Below w.heap.size w W)) (fun _ i _ => k - (intOf i).toNat)
      case atStart => exact ⟨0, 0, cap, _, [], by omega, rfl, rfl, Lib.hid rfl, Lib.hid rfl, by omega, HO1, HB1⟩
      case round =>
        obtain ⟨j, n, c, C, xs, hj, rfl, rfl, HXS, HNX, hn, HO, HB2⟩ := hrel
        by_cases hjK : j < k
        · obtain ⟨Aj, nj, cj, c0, hX⟩ := HL.out.2.2.2.2.2 ad rfl j hjK
          have c1 : wr.cell? (ad.add j) = some (.slice Aj nj cj) := by rw [HB2.out.cell (by rw [add_block]; exact hlt)]; exact c0
          have hx2 : xs ++ ls.getD j [] = (ls.take (j + 1)).flatten := by rw [flat_take (by rw [HL.out.1]; exact hjK), HXS.out]
          have hn2 : n + nj = (xs ++ ls.getD j []).length := by rw [List.length_append, HNX.out, hX.len]
          have hn3 : n + nj ≤ 4194304 := by have h1 := HN.out (j + 1); have h2 := HM.out; rw [← hx2] at h1; omega
          have HX2 := Lib.hid hx2; have HN2 := Lib.hid hn2; have HXX := Lib.hid (hX.below HB2.out)
          clear hx2 hn2 hX c0
          go_wp2_with (at_builtin; refine wpList_append_txt rfl (.tmp 31) (.tmp 32) rfl w.heap.size n nj cj _ xs (ls.getD j []) Aj Any rfl rfl HO.out HXX.out (by omega) HB2.out.size ?_)
          intro v' W2 hown hgrow hat
          obtain ⟨C', c', rfl⟩ := own_slice_of hown
          have HO3 := Lib.hid hown; have HB3 := Lib.hid (below_own HB2.out HO.out (Nat.le_refl _) hgrow); clear hown hgrow hat
          go_wp2
          go_roundw
          case rel => exact ⟨j + 1, n + nj, c', C', _, by omega, by go_num, rfl, HX2, HN2, by omega, HO3, HB3⟩
          case measure => simp [intOf]; omega
        · obtain rfl : j = k := by omega
          go_wp2
          go_ret
          have hxe : xs = ls.flatten := by rw [HXS.out, List.take_of_length_le (by rw [HL.out.1]; omega)]
          subst hxe
          have hnn := HNX.out
          subst hnn
          exact ⟨_, _, rfl, HO.out, HB2.out⟩
theorem concat_all (ad : Addr) (cc K : Nat) (ls : List (List Nat)) (w : World) (hL : TxtL Any w (some ad) K cc ls) (hK : 0 < K) (hK8 : K ≤ 8) (hm : ls.flatten.length ≤ 4194304) :
    Calls Tryd.prog 16 #[.slice (some ad) K cc] w (Wr.Told ls.flatten w) :=
  (concat_own ad cc K ls w hL hK hK8 hm).mono fun e w' ⟨C, cap, he, ho, hb⟩ => by subst he; exact told_of_own ho (flat_lt hL.all) hb
end Go.Proofs.YtfhibjpkbbbfpaaDoor.Bx
