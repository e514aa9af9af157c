/- Walks: begins. -/
import Derived.Test.YthjoafldndgahaaDoorWrWalkJ
namespace Go.Proofs.YthjoafldndgahaaDoor.Wr
set_option linter.all false
open Go.RowKit

def isPre (b a : List Nat) : Bool := decide (a.take b.length = b)
set_option maxHeartbeats 4000000 in
set_option maxRecDepth 100000 in
theorem begins_any (A B : Option Addr) (a b : List Nat) (na ca nb cb : Nat) (w : World) (hA : Txt Any w A na ca a) (hB : Txt Any w B nb cb b) (q : Bool) (hq : Hid (isPre b a = q)) :
    Calls Tryd.prog 25 #[.slice A na ca, .slice B nb cb] w fun e w' => e = .returned (.bool q) ∧ Below w.heap.size w w' := by
  have hla := hA.len
  have hlb := hB.len
  have hna : na ≤ 9223372036854775807 := by have h1 := hA.2.2.1; have h2 := hA.2.2.2.1; omega
  have hnb : nb ≤ 9223372036854775807 := by have h1 := hB.2.2.1; have h2 := hB.2.2.2.1; omega
  by_cases hn : nb ≤ na
  · have yn : (nb : Int) ≤ (na : Int) := by omega
    have hcv2 := hB.drew.conv
    have HH := hA.head nb hn
    have hcv1 := HH.drew.conv
    have hhd := fun W => run_head A na ca nb hn hA.2.2.1 hA.2.2.2.2.1 W
    have hbeq := txt_beq HH.lt hB.lt
    have HQ := Lib.hid (show decide (a.take nb = b) = q by rw [← hq.out]; unfold isPre; rw [hlb])
    obtain ⟨s, hs⟩ : ∃ s, a.take nb = s := ⟨_, rfl⟩
    rw [hs] at hcv1 hbeq HQ
    rw [HQ.out] at hbeq
    clear hs HH hla hlb hA hB HQ
    go_enter Tryd.func25, Tryd.ntmps25
    go_wp2
    refine wp_region_still_tail 15 rfl (by kernel_rfl) ?_
    simp only [List.take_succ_cons, List.take_zero, List.drop_succ_cons, List.drop_zero]
    repeat still_step
    refine wpStill_nil ?_
    change wpList _ _ _ _ _ (World.drew _)
    go_wp2
    go_ret
    exact ⟨rfl, (Below.refl _ _).drew⟩
  · have yn : ¬ (nb : Int) ≤ (na : Int) := by omega
    have HR := Lib.hid (show q = false by
      rw [← hq.out]; unfold isPre; apply decide_eq_false
      intro e
      have := congrArg List.length e
      rw [List.length_take] at this
      omega)
    have yn' : ¬ nb ≤ na := hn
    clear hla hlb hA hB
    go_enter Tryd.func25, Tryd.ntmps25
    go_wp2
    refine wp_region_still_tail 15 rfl (by kernel_rfl) ?_
    simp only [List.take_succ_cons, List.take_zero, List.drop_succ_cons, List.drop_zero]
    iterate 6 still_step
    iterate 8 (unfold wpStill; rw [if_neg (Bool.eq_false_iff.1 (by kernel_rfl))]; simp only [Act.put, List.setIfInBounds_toArray, List.set_cons_zero, List.set_cons_succ])
    still_step
    refine wpStill_nil ?_
    change wpList _ _ _ _ _ (World.drew _)
    go_wp2
    go_ret
    exact ⟨by rw [HR.out]; rfl, (Below.refl _ _).drew⟩
end Go.Proofs.YthjoafldndgahaaDoor.Wr
