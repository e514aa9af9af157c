/- Walks: the closures that each is handed. -/
import Derived.Test.YtjaaldkkfdfkcaaSmWalkA
namespace Go.Proofs.Ytjaaldkkfdfkcaa.Sm
open Go.RowKit
set_option linter.all false

set_option maxHeartbeats 400000 in
theorem mod1_any (b : Nat) (p : Nat → Int) (i : Nat) (w : World) (hi : i < 256) (h : w.rowIs b 23 256 (ints p)) :
    Calls Try.prog 24 #[.int .i64 i, .pointer (some ⟨b, 0, none⟩)] w fun e w' => e = .returned (.int .i64 (p i)) ∧ ∃ n, w' = w.drewN n := by
  have c := h.cell hi
  unfold ints at c
  clear h
  go_enter Try.func24, Try.ntmps24
  go_wp2
  go_ret
  exact ⟨rfl, 0, rfl⟩
set_option maxHeartbeats 400000 in
theorem inv2_any (b : Nat) (f : Nat → F) (i : Nat) (w : World) (hi : i < 256) (h : w.rowIs b 23 256 (ints (up f))) :
    Calls Try.prog 36 #[.int .i64 i, .pointer (some ⟨b, 0, none⟩)] w fun e w' => e = .returned (.int .i64 (nv (f i) * 3303)) ∧ ∃ n, w' = w.drewN n := by
  have c := h.cell hi
  unfold ints at c
  rw [up_at] at c
  have a1 := nv_lo (f i); have a2 := nv_hi (f i)
  clear h
  go_enter Try.func36, Try.ntmps36
  go_wp2
  go_ret
  exact ⟨rfl, 0, rfl⟩
set_option maxHeartbeats 400000 in
theorem add1_any (b b' : Nat) (f g : Nat → F) (i : Nat) (w : World) (hi : i < 256) (h : w.rowIs b 23 256 (ints (up f))) (h' : w.rowIs b' 23 256 (ints (up g))) :
    Calls Try.prog 26 #[.int .i64 i, .pointer (some ⟨b, 0, none⟩), .pointer (some ⟨b', 0, none⟩)] w fun e w' => e = .returned (.int .i64 (nv (f i) + nv (g i))) ∧ ∃ n, w' = w.drewN n := by
  have c := h.cell hi; have c' := h'.cell hi
  unfold ints at c c'
  rw [up_at] at c c'
  have a1 := nv_lo (f i); have a2 := nv_hi (f i)
  have a3 := nv_lo (g i); have a4 := nv_hi (g i)
  clear h h'
  go_enter Try.func26, Try.ntmps26
  go_wp2
  go_region
  go_wp2
  go_ret
  exact ⟨rfl, 1, rfl⟩
set_option maxHeartbeats 400000 in
theorem sub1_any (b b' : Nat) (f g : Nat → F) (i : Nat) (w : World) (hi : i < 256) (h : w.rowIs b 23 256 (ints (up f))) (h' : w.rowIs b' 23 256 (ints (up g))) :
    Calls Try.prog 27 #[.int .i64 i, .pointer (some ⟨b, 0, none⟩), .pointer (some ⟨b', 0, none⟩)] w fun e w' => e = .returned (.int .i64 (nv (f i) - nv (g i))) ∧ ∃ n, w' = w.drewN n := by
  have c := h.cell hi; have c' := h'.cell hi
  unfold ints at c c'
  rw [up_at] at c c'
  have a1 := nv_lo (f i); have a2 := nv_hi (f i)
  have a3 := nv_lo (g i); have a4 := nv_hi (g i)
  clear h h'
  go_enter Try.func27, Try.ntmps27
  go_wp2
  go_region
  go_wp2
  go_ret
  exact ⟨rfl, 1, rfl⟩
end Go.Proofs.Ytjaaldkkfdfkcaa.Sm
