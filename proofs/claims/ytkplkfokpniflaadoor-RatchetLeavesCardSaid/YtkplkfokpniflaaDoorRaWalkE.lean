/- Walks: lastOf, passedOver. -/
import Derived.Test.YtkplkfokpniflaaDoorRaWalkD
namespace Go.Proofs.YtkplkfokpniflaaDoor.Ra
set_option linter.all false
open Go.RowKit
open Wr (Txt Any New bcells gt)

set_option maxHeartbeats 2000000 in
theorem lastOf_is (S : Nat → Prop) (ad : Addr) (n c : Nat) (ks : List Kd) (w : World) (hK : Kds S w (some ad) n c ks) (hn : 0 < n) :
    Calls Tryd.prog 44 #[.slice (some ad) n c] w fun e w' => ∃ K' n' c', e = .returned (.slice K' n' c') ∧ Kds S w K' n' c' (l16 ks) ∧ w = w' := by
  have hl := hK.len; have hnc := hK.2.1; have hc9 := hK.2.2.1
  by_cases h : n ≤ 16
  · have y1 : (n : Int) - 16 < 0 ∨ (n : Int) - 16 = 0 := by omega
    have e : l16 ks = ks := by unfold l16; rw [show ks.length - 16 = 0 by omega]; rfl
    rw [e]
    have HK := Lib.hid hK
    clear hK e hl
    rcases y1 with y1 | y1
    · have y2 : ¬ 0 < (n : Int) - 16 := by omega
      have y0 : ¬ c = 0 := by omega
      go_enter Tryd.func44, Tryd.ntmps44
      go_wp2
      go_ret
      exact ⟨_, _, _, rfl, HK.out, rfl⟩
    · have y0 : ¬ c = 0 := by omega
      go_enter Tryd.func44, Tryd.ntmps44
      go_wp2
      go_ret
      exact ⟨_, _, _, rfl, HK.out, rfl⟩
  · obtain ⟨m, hm⟩ : ∃ m, n = m + 16 := ⟨n - 16, by omega⟩
    have y1 : (n : Int) - 16 = (m : Int) := by omega
    have y2 : (0 : Int) < (m : Int) := by omega
    have y3 : ¬ c = m := by omega
    have y4 : m ≤ n := by omega
    have y5 : m ≤ c := by omega
    have HK : Hid (Kds S w (some (ad.add (m * 2))) (n - m) (c - m) (l16 ks)) := Lib.hid (by
      have h1 := hK.sub m (n - m) (by omega) (c - m) (by omega) (by omega)
      unfold l16
      rw [hl, show n - 16 = m by omega]
      rwa [List.take_of_length_le (by rw [List.length_drop]; omega)] at h1)
    clear hK hl h hm
    go_enter Tryd.func44, Tryd.ntmps44
    go_wp2
    go_ret
    exact ⟨_, _, _, rfl, HK.out, rfl⟩
end Go.Proofs.YtkplkfokpniflaaDoor.Ra
