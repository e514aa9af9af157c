/- Walks: Same, begins. -/
import Derived.Test.YthjoafldndgahaaDoorWrHead
namespace Go.Proofs.YthjoafldndgahaaDoor.Wr
set_option linter.all false
open Go.RowKit

def alike (a b : List (List Nat)) : Bool := decide (a = b)
theorem alike_step {a b : List (List Nat)} {k : Nat} (hl : a.length = b.length) (hk : k < a.length) (hp : a.take k = b.take k) (he : a.getD k [] = b.getD k []) : a.take (k + 1) = b.take (k + 1) := by
  rw [List.take_succ_eq_append_getElem hk, List.take_succ_eq_append_getElem (by omega), hp]
  rw [List.getD_eq_getElem?_getD, List.getD_eq_getElem?_getD, List.getElem?_eq_getElem hk, List.getElem?_eq_getElem (by omega)] at he
  simp at he
  rw [he]

set_option maxHeartbeats 4000000 in
set_option maxRecDepth 100000 in
theorem same_any (A B : Option Addr) (a b : List (List Nat)) (na ca nb cb : Nat) (w : World) (hA : TxtL Any w A na ca a) (hB : TxtL Any w B nb cb b) (q : Bool) (hq : Hid (decide (a = b) = q)) :
    Calls Tryd.prog 24 #[.slice A na ca, .slice B nb cb] w fun e w' => e = .returned (.bool q) ∧ Below w.heap.size w w' := by
  have hla : a.length = na := hA.1
  have hlb : b.length = nb := hB.1
  have hna : na ≤ 9223372036854775807 := by have h1 := hA.2.1; have h2 := hA.2.2.1; omega
  have hnb : nb ≤ 9223372036854775807 := by have h1 := hB.2.1; have h2 := hB.2.2.1; omega
  have HA := Lib.hid hA; have HB := Lib.hid hB
  have HLA := Lib.hid hla; have HLB := Lib.hid hlb
  clear hA hB
  by_cases hn : na = nb
  · subst hn
    clear hla hlb hnb
    go_enter Tryd.func24, Tryd.ntmps24
    go_wp2
    go_loopw [5] (fun i W => ∃ k : Nat, k ≤ na ∧ i = .int .i64 k ∧ Hid (a.take k = b.take k) ∧ Hid (Below w.heap.size w W)) (fun i _ => na - (intOf i).toNat)
    case atStart => exact ⟨0, by omega, rfl, Lib.hid rfl, Lib.hid (Below.refl _ _)⟩
    case round =>
      obtain ⟨k, hk, rfl, HP, HW⟩ := hrel
      by_cases hkn : k < na
      · have yk : (k : Int) < (na : Int) := by omega
        obtain ⟨ad, rfl⟩ := HA.out.some (by omega)
        obtain ⟨bd, rfl⟩ := HB.out.some (by omega)
        obtain ⟨Aj, nj, cj, hc, hX⟩ := txtL_at (HA.out.below HW.out) k hkn
        obtain ⟨Bj, mj, dj, hd, hY⟩ := txtL_at (HB.out.below HW.out) k hkn
        have hcv1 := hX.drew.conv
        have hcv2 := hY.drew.conv
        have HS := Lib.hid (fun he => alike_step (by rw [HLA.out, HLB.out]) (by rw [HLA.out]; exact hkn) HP.out he)
        have HN := Lib.hid (show ¬ a.getD k [] = b.getD k [] → a ≠ b from fun h e => h (by rw [e]))
        have hbeq := txt_beq hX.lt hY.lt
        obtain ⟨s, hs⟩ : ∃ s, a.getD k [] = s := ⟨_, rfl⟩
        obtain ⟨t, ht⟩ : ∃ t, b.getD k [] = t := ⟨_, rfl⟩
        rw [hs] at HS HN hcv1 hbeq
        rw [ht] at HS HN hcv2 hbeq
        clear hs ht hX hY
        by_cases he : s = t
        · rw [decide_eq_true he] at hbeq
          have HS' := Lib.hid (HS.out he)
          clear HS HN he
          have HW2 := Lib.hid HW.out.drew
          go_wp2
          refine wp_region_still_lit rfl (by kernel_rfl) ?_
          repeat still_step
          refine wpStill_nil ?_
          change Exit.then _ _ Exit.normal _ (World.drew _)
          go_wp2
          go_roundw
          case rel => exact ⟨k + 1, by omega, by go_num, HS', HW2⟩
          case measure => simp [intOf]; omega
        · rw [decide_eq_false he] at hbeq
          have HR := Lib.hid (show q = false by rw [← hq.out]; exact decide_eq_false (HN.out he))
          clear HS HN he
          have HW2 := Lib.hid HW.out.drew
          go_wp2
          refine wp_region_still_lit rfl (by kernel_rfl) ?_
          repeat still_step
          refine wpStill_nil ?_
          change Exit.then _ _ Exit.normal _ (World.drew _)
          go_wp2
          go_ret
          exact ⟨by rw [HR.out]; rfl, HW2.out⟩
      · have yk : ¬ (k : Int) < (na : Int) := by omega
        have HR := Lib.hid (show q = true by
          rw [← hq.out]; apply decide_eq_true
          have := HP.out
          rw [List.take_of_length_le (by rw [HLA.out]; omega), List.take_of_length_le (by rw [HLB.out]; omega)] at this
          exact this)
        go_wp2
        go_ret
        exact ⟨by rw [HR.out]; rfl, HW.out⟩
  · have yn : ¬ (na : Int) = (nb : Int) := by omega
    have HR := Lib.hid (show q = false by rw [← hq.out]; exact decide_eq_false (fun e => hn (by rw [← hla, ← hlb, e])))
    go_enter Tryd.func24, Tryd.ntmps24
    go_wp2
    go_ret
    exact ⟨by rw [HR.out]; rfl, Below.refl _ _⟩

end Go.Proofs.YthjoafldndgahaaDoor.Wr
