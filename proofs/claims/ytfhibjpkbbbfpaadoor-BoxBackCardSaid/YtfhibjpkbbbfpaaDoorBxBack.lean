/- Walks: BoxBack. -/
import Derived.Test.YtfhibjpkbbbfpaaDoorBxHead
namespace Go.Proofs.YtfhibjpkbbbfpaaDoor.Bx
set_option linter.all false
open Go.RowKit Wr

set_option maxHeartbeats 4000000 in
set_option maxRecDepth 100000 in
theorem boxBack_walk (K : Option Addr) (key : List Nat) (nk ck : Nat) (A : Option Addr) (ahead : List Nat) (na ca : Nat) (B : Option Addr) (text : List Nat) (nb cb : Nat) (w : World) (hT : Tabs w)
    (hK : Txt Any w K nk ck key) (hA : Txt Any w A na ca ahead) (hB : Txt Any w B nb cb text) :
    Calls Tryd.prog 4 #[.slice K nk ck, .slice A na ca, .slice B nb cb] w fun e w' => e = .returned (.bool true) ∧ Below w.heap.size w w' := by
  have hlt := hT.lt
  have HT := Lib.hid hT; have HK := Lib.hid hK; have HA := Lib.hid hA; have HB := Lib.hid hB; clear hT hK hA hB
  go_enter Tryd.func4, Tryd.ntmps4
  go_wp2_with fail
  refine (head_any w HT.out).mono ?_
  rintro e' w1 ⟨rfl, hB1⟩
  have HB1 := Lib.hid hB1; clear hB1
  by_cases hbad : ¬ nk = 32 ∨ 32768 < na ∨ 32768 < nb
  · go_wp2_with fail
    refine (close_bad K A B nk ck na ca nb cb w1 hbad).mono ?_
    rintro e' w2 ⟨rfl, rfl⟩
    by_cases h1 : nk = 32
    · subst h1
      rw [if_pos rfl]
      by_cases h2 : 32768 < na
      · have y2 : (32768 : Int) < (na : Int) := by omega
        clear hbad h2
        go_wp2
        go_ret
        exact ⟨rfl, HB1.out⟩
      · have y2 : ¬ (32768 : Int) < (na : Int) := by omega
        have y3 : (32768 : Int) < (nb : Int) := by omega
        clear hbad h2
        go_wp2
        go_ret
        exact ⟨rfl, HB1.out⟩
    · have y1 : ((nk : Int) != 32) = true := by rw [bne_iff_ne]; omega
      rw [if_neg h1]
      clear hbad h1
      go_wp2
      go_ret
      exact ⟨rfl, HB1.out⟩
  · obtain rfl : nk = 32 := by omega
    have y2 : ¬ (32768 : Int) < (na : Int) := by omega
    have y3 : ¬ (32768 : Int) < (nb : Int) := by omega
    have hma : na ≤ 32768 := by omega
    have hmb : nb ≤ 32768 := by omega
    clear hbad
    obtain ⟨h, hh⟩ : ∃ h, hide (kS key) text = h := ⟨_, rfl⟩
    obtain ⟨t, ht⟩ : ∃ t, tg (kT key) ahead h = t := ⟨_, rfl⟩
    have HQ : Hid (openQ key ahead (h ++ t) = (text, 0)) := Lib.hid (by rw [← ht, ← hh]; exact openQ_right)
    have HN : Hid ((h ++ t).length = nb + 32) := Lib.hid (by rw [List.length_append, ← ht, tg_len, ← hh, hide_len, HB.out.len])
    have HH := Lib.hid hh; have HTT := Lib.hid ht
    clear hh ht
    go_wp2_with fail
    refine (close_ok K A B key ahead text ck na ca nb cb w1 (HT.out.below HB1.out hlt) (HK.out.below HB1.out) (HA.out.below HB1.out) (HB.out.below HB1.out) hma hmb h t HH HTT).mono ?_
    rintro e' w2 ⟨A2, n2, c2, rfl, hX2, hB2⟩
    obtain rfl : n2 = nb + 32 := by rw [← hX2.len]; exact HN.out
    have HX2 := Lib.hid hX2.any; have HB2 := Lib.hid (HB1.out.trans (hB2.mono HB1.out.size))
    clear hX2 hB2
    go_wp2_with fail
    refine (open_ok K A2 A key ahead (h ++ t) ck na ca (nb + 32) c2 w2 (HT.out.below HB2.out hlt) (HK.out.below HB2.out) (HA.out.below HB2.out) HX2.out hma (by omega) (by omega) _ HQ).mono ?_
    rintro e' w3 ⟨A3, n3, c3, rfl, hX3, hB3⟩
    have HB3 := Lib.hid (HB2.out.trans (hB3.mono HB2.out.size))
    have hcv1 := hX3.conv
    have hcv2 := (HB.out.below HB3.out).conv
    clear hX3 hB3
    go_wp2
    go_ret
    exact ⟨rfl, HB3.out⟩
end Go.Proofs.YtfhibjpkbbbfpaaDoor.Bx
