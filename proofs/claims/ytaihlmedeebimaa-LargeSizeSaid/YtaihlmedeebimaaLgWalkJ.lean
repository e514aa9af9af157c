/- Walks: Size. -/
import Derived.Test.YtaihlmedeebimaaLgWalkI
namespace Go.Proofs.Ytaihlmedeebimaa.Lg
open Go.RowKit
set_option linter.all false

def sizTo (f : Nat → F) : Nat → Int
  | 0 => 0
  | k + 1 => if mag (f k) > sizTo f k then mag (f k) else sizTo f k
def siz (f : Nat → F) : Int := sizTo f 256
theorem sizTo_bd (f : Nat → F) : ∀ k, 0 ≤ sizTo f k ∧ sizTo f k ≤ 4190208
  | 0 => by unfold sizTo; omega
  | k + 1 => by
    have := sizTo_bd f k; have := mag_bd (f k)
    unfold sizTo; split <;> omega
set_option maxHeartbeats 800000 in
set_option maxRecDepth 100000 in
theorem size_any (cs : Array Value) (p : Nat → Int) (w : World) (hP : IsP cs p) (hF : Fits p) :
    Calls Try.prog 14 #[.agg cs] w fun e w' => e = .returned (.int .i64 (siz (redp p))) ∧ Below w.heap.size w w' := by
  have HP := Lib.hid hP; have HF := Lib.hid hF; clear hP hF
  have HA := Lib.hid (heap_alloc_last w (.cells cs 23))
  have HB := Lib.hid ((Below.refl w.heap.size w).alloc (Nat.le_refl _) (.cells cs 23))
  go_enter Try.func14, Try.ntmps14
  go_wp2_with (refine wpList_load_row rfl 23 (.tmp 1) rfl w.heap.size rfl 23 cs (0, 0) _ HA.out Try.underlying23 rfl (poly_sized HP.out) ?_)
  go_loopw [3, 7] (fun s i W => ∃ k : Nat, k ≤ 256 ∧ i = .int .i64 k ∧ s = .int .i64 (sizTo (redp p) k) ∧ Hid (Below w.heap.size w W)) (fun _ i _ => 256 - (intOf i).toNat)
  case atStart => exact ⟨0, by omega, rfl, rfl, HB⟩
  case round =>
    clear HB HA
    obtain ⟨k, hk, rfl, rfl, HB⟩ := hrel
    by_cases hlt : k < 256
    · obtain ⟨v1, v2⟩ := HF.out k hlt
      have hix := run_index_one (P := Try.prog) 23 3 256 _ cs .i64 k _ Try.underlying23 Try.underlying3 rfl (by kernel_rfl) hlt (HP.out.2 k hlt)
      have hs : sizTo (redp p) (k + 1) = if mag (redp p k) > sizTo (redp p) k then mag (redp p k) else sizTo (redp p) k := rfl
      obtain ⟨x, hx⟩ : ∃ x, redp p k = x := ⟨_, rfl⟩
      have HX := Lib.hid (show red (p k) = x from hx)
      obtain ⟨y, hy⟩ : ∃ y, sizTo (redp p) k = y := ⟨_, rfl⟩
      rw [hx, hy] at hs
      rw [hy]
      obtain ⟨m, hm⟩ : ∃ m, mag x = m := ⟨_, rfl⟩
      rw [hm] at hs
      have HM := Lib.hid hm; have HY := Lib.hid hy
      clear hx hy hm
      by_cases hc : m > y
      · rw [if_pos hc] at hs
        have HS := Lib.hid hs; clear hs
        go_wp2_with fail
        refine (centred_is _ x _ HX.out v1 v2).mono ?_
        rintro e' w' ⟨rfl, rfl⟩
        go_wp2_with fail
        refine (unsigned_is x _).mono ?_
        rintro e' w' ⟨rfl, rfl⟩
        rw [HM.out]
        go_wp2
        go_roundw
        case rel => exact ⟨k + 1, by omega, by go_num, by rw [HS.out], HB⟩
        case measure => simp [intOf]; omega
      · rw [if_neg hc] at hs
        have HS := Lib.hid hs; clear hs
        go_wp2_with fail
        refine (centred_is _ x _ HX.out v1 v2).mono ?_
        rintro e' w' ⟨rfl, rfl⟩
        go_wp2_with fail
        refine (unsigned_is x _).mono ?_
        rintro e' w' ⟨rfl, rfl⟩
        rw [HM.out]
        go_wp2
        go_roundw
        case rel => exact ⟨k + 1, by omega, by go_num, by rw [HS.out], HB⟩
        case measure => simp [intOf]; omega
    · obtain rfl : k = 256 := by omega
      go_wp2
      go_ret
      exact ⟨rfl, HB.out⟩
end Go.Proofs.Ytaihlmedeebimaa.Lg
