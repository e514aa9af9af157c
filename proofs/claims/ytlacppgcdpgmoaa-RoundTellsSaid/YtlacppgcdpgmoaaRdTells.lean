/- Walks: RoundTells. -/
import Derived.Test.YtlacppgcdpgmoaaRdRef
namespace Go.Proofs.Ytlacppgcdpgmoaa.Rd
open Go.RowKit
set_option linter.all false

set_option maxHeartbeats 1600000 in
theorem tells_any (n z : Int) (t : Bool) (w : World) (hn : In n) (hz : In z) :
    Calls Try.prog 3 #[.int .i64 n, .int .i64 z, .bool t] w fun e w' => e = .returned (.bool true) ∧ w' = w := by
  have HH := Lib.hid (head_any w)
  have H1 := power2_any n w hn
  have H2 := dpower2_any n w hn
  have H3 := parts_any n w hn
  have H4 := dparts_any n w hn
  have H5 := hint_any z n w hz hn
  have H6 := dhint_any z n w hz hn
  have H7 := use_any t n w hn
  have H8 := duse_any t n w hn
  obtain ⟨u, hu⟩ : ∃ u, use t (hi (num n)) (lo (num n)) = u := ⟨_, rfl⟩
  rw [hu] at H7 H8
  clear hu
  obtain ⟨h, hh⟩ : ∃ h, hi (num n) = h := ⟨_, rfl⟩
  obtain ⟨l, hl⟩ : ∃ l, lo (num n) = l := ⟨_, rfl⟩
  obtain ⟨x, hx⟩ : ∃ x, ph2 (num n) = x := ⟨_, rfl⟩
  obtain ⟨y, hy⟩ : ∃ y, rst (num n) = y := ⟨_, rfl⟩
  obtain ⟨s, hs⟩ : ∃ s, hint z n = s := ⟨_, rfl⟩
  rw [hx, hy] at H1 H2
  rw [hh, hl] at H3 H4
  rw [hs] at H5 H6
  clear hh hl hx hy hs hn hz
  have H1 := Lib.hid H1; have H2 := Lib.hid H2; have H3 := Lib.hid H3; have H4 := Lib.hid H4
  have H5 := Lib.hid H5; have H6 := Lib.hid H6; have H7 := Lib.hid H7; have H8 := Lib.hid H8
  go_enter Try.func3, Try.ntmps3
  go_wp2_with fail
  refine HH.out.mono ?_
  rintro e w' ⟨rfl, rfl⟩
  go_wp2_with fail
  refine H1.out.mono ?_
  rintro e w' ⟨rfl, rfl⟩
  go_wp2_with fail
  refine H2.out.mono ?_
  rintro e w' ⟨rfl, rfl⟩
  go_wp2_with fail
  refine H3.out.mono ?_
  rintro e w' ⟨rfl, rfl⟩
  go_wp2_with fail
  refine H4.out.mono ?_
  rintro e w' ⟨rfl, rfl⟩
  go_wp2_with fail
  refine H5.out.mono ?_
  rintro e w' ⟨rfl, rfl⟩
  go_wp2_with fail
  refine H6.out.mono ?_
  rintro e w' ⟨rfl, rfl⟩
  go_wp2_with fail
  refine H7.out.mono ?_
  rintro e w' ⟨rfl, rfl⟩
  go_wp2_with fail
  refine H8.out.mono ?_
  rintro e w' ⟨rfl, rfl⟩
  go_wp2
  go_ret
  exact ⟨by simp, rfl⟩
end Go.Proofs.Ytlacppgcdpgmoaa.Rd
