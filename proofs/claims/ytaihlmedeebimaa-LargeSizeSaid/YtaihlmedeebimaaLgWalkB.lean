/- Walks: the closures that each is handed. -/
import Derived.Test.YtaihlmedeebimaaLgWalkA
namespace Go.Proofs.Ytaihlmedeebimaa.Lg
open Go.RowKit
set_option linter.all false

def Fits (p : Nat → Int) : Prop := ∀ i, i < 256 → -9223372036854775808 ≤ p i ∧ p i ≤ 9223372036854775807
theorem fits_up (f : Nat → F) : Fits (up f) := fun i _ => by unfold up; have := nv_lo (f i); have := nv_hi (f i); omega
def redp (p : Nat → Int) : Nat → F := fun i => red (p i)
theorem redp_up (f : Nat → F) : redp (up f) = f := by funext i; exact red_nv _
theorem redp_at (p : Nat → Int) (i : Nat) : redp p i = red (p i) := rfl
theorem number_same (n : Int) (x : F) (w : World) (h : red n = x) (h1 : -9223372036854775808 ≤ n) (h2 : n ≤ 9223372036854775807) :
    Calls Try.prog 29 #[.int .i64 n] w fun e w' => e = .returned (.int .i64 (nv x)) ∧ w' = w :=
  (number_is n x w h h1 h2).mono fun _ _ ⟨h, h'⟩ => ⟨h, h'.symm⟩
theorem product_same {a b : Int} {x y : F} (w : World) (h : Near a x) (k : Near b y) :
    Calls Try.prog 37 #[.int .i64 a, .int .i64 b] w fun e w' => e = .returned (.int .i64 (nv (x * y))) ∧ w' = w :=
  (product_near w h k).mono fun _ _ ⟨h, h'⟩ => ⟨h, h'.symm⟩

set_option maxHeartbeats 400000 in
theorem mod1_any (b : Nat) (p : Nat → Int) (i : Nat) (w : World) (hi : i < 256) (h : w.rowIs b 23 256 (ints p)) (h1 : -9223372036854775808 ≤ p i) (h2 : p i ≤ 9223372036854775807) :
    Calls Try.prog 28 #[.int .i64 i, .pointer (some ⟨b, 0, none⟩)] w fun e w' => e = .returned (.int .i64 (nv (redp p i))) ∧ ∃ n, w' = w.drewN n := by
  have c := h.cell hi
  unfold ints at c
  clear h
  go_enter Try.func28, Try.ntmps28
  go_wp2_with fail
  refine (number_is _ (redp p i) _ rfl h1 h2).mono ?_
  rintro e w' ⟨rfl, rfl⟩
  go_wp2
  go_ret
  exact ⟨rfl, 0, rfl⟩
set_option maxHeartbeats 400000 in
theorem cen1_any (b : Nat) (p : Nat → Int) (i : Nat) (w : World) (hi : i < 256) (h : w.rowIs b 23 256 (ints p)) (h1 : -9223372036854775808 ≤ p i) (h2 : p i ≤ 9223372036854775807) :
    Calls Try.prog 31 #[.int .i64 i, .pointer (some ⟨b, 0, none⟩)] w fun e w' => e = .returned (.int .i64 (cen (redp p i))) ∧ ∃ n, w' = w.drewN n := by
  have c := h.cell hi
  unfold ints at c
  clear h
  go_enter Try.func31, Try.ntmps31
  go_wp2_with fail
  refine (centred_is _ (redp p i) _ rfl h1 h2).mono ?_
  rintro e w' ⟨rfl, rfl⟩
  go_wp2
  go_ret
  exact ⟨rfl, 0, rfl⟩
theorem near_unscale : Near 8347681 8347681 := ⟨by decide, by omega, by omega⟩
set_option maxHeartbeats 400000 in
theorem inv2_any (b : Nat) (f : Nat → F) (i : Nat) (w : World) (hi : i < 256) (h : w.rowIs b 23 256 (ints (up f))) :
    Calls Try.prog 45 #[.int .i64 i, .pointer (some ⟨b, 0, none⟩)] w fun e w' => e = .returned (.int .i64 (nv (sc 8347681 f i))) ∧ ∃ n, w' = w.drewN n := by
  have c := h.cell hi
  unfold ints at c
  rw [up_at] at c
  have e0 : sc 8347681 f i = f i * 8347681 := by unfold sc; grind
  rw [e0]
  clear h e0
  go_enter Try.func45, Try.ntmps45
  go_wp2_with fail
  refine (product_near _ (near_nv (f i)) near_unscale).mono ?_
  rintro e w' ⟨rfl, rfl⟩
  go_wp2
  go_ret
  exact ⟨rfl, 0, rfl⟩
set_option maxHeartbeats 800000 in
set_option maxRecDepth 100000 in
theorem add1_any (b b' : Nat) (p q : Nat → Int) (i : Nat) (w : World) (hi : i < 256) (h : w.rowIs b 23 256 (ints p)) (h' : w.rowIs b' 23 256 (ints q)) (h1 : -9223372036854775808 ≤ p i ∧ p i ≤ 9223372036854775807) (h2 : -9223372036854775808 ≤ q i ∧ q i ≤ 9223372036854775807) :
    Calls Try.prog 34 #[.int .i64 i, .pointer (some ⟨b, 0, none⟩), .pointer (some ⟨b', 0, none⟩)] w fun e w' => e = .returned (.int .i64 (nv (pl (redp p) (redp q) i))) ∧ ∃ n, w' = w.drewN n := by
  obtain ⟨v1, v2⟩ := h1; obtain ⟨v3, v4⟩ := h2
  have hc := h.cell hi; have hc' := h'.cell hi
  unfold ints at hc hc'
  have a1 := nv_lo (redp p i); have a2 := nv_hi (redp p i); have a3 := nv_lo (redp q i); have a4 := nv_hi (redp q i)
  have q1 : IntKind.i64.wrap (nv (redp p i) + nv (redp q i)) = nv (redp p i) + nv (redp q i) := IntWalk.i64_in _ (by omega)
  have i0 : (0 : Int) ≤ (i : Int) := by omega
  have i1 : (i : Int) < 256 := by omega
  have e0 : pl (redp p) (redp q) i = redp p i + redp q i := rfl
  rw [e0]
  clear h h' e0
  go_enter Try.func34, Try.ntmps34
  go_wp2
  refine wp_region_still_tail 10 (by kernel_rfl) (by kernel_rfl) ?_
  simp only [List.take_succ_cons, List.take_zero, List.drop_succ_cons, List.drop_zero]
  repeat still_step
  still_call (number_same _ (redp p i) _ rfl v1 v2)
  repeat still_step
  still_call (number_same _ (redp q i) _ rfl v3 v4)
  repeat still_step
  still_call (number_same _ (redp p i + redp q i) _ (red_add_nv _ _) (by omega) (by omega))
  repeat still_step
  refine wpStill_nil ?_
  change wpList _ _ _ _ _ w.drew
  go_wp2
  go_ret
  exact ⟨rfl, 1, rfl⟩
set_option maxHeartbeats 800000 in
set_option maxRecDepth 100000 in
theorem sub1_any (b b' : Nat) (p q : Nat → Int) (i : Nat) (w : World) (hi : i < 256) (h : w.rowIs b 23 256 (ints p)) (h' : w.rowIs b' 23 256 (ints q)) (h1 : -9223372036854775808 ≤ p i ∧ p i ≤ 9223372036854775807) (h2 : -9223372036854775808 ≤ q i ∧ q i ≤ 9223372036854775807) :
    Calls Try.prog 35 #[.int .i64 i, .pointer (some ⟨b, 0, none⟩), .pointer (some ⟨b', 0, none⟩)] w fun e w' => e = .returned (.int .i64 (nv (mi (redp p) (redp q) i))) ∧ ∃ n, w' = w.drewN n := by
  obtain ⟨v1, v2⟩ := h1; obtain ⟨v3, v4⟩ := h2
  have hc := h.cell hi; have hc' := h'.cell hi
  unfold ints at hc hc'
  have a1 := nv_lo (redp p i); have a2 := nv_hi (redp p i); have a3 := nv_lo (redp q i); have a4 := nv_hi (redp q i)
  have q1 : IntKind.i64.wrap (nv (redp p i) - nv (redp q i)) = nv (redp p i) - nv (redp q i) := IntWalk.i64_in _ (by omega)
  have i0 : (0 : Int) ≤ (i : Int) := by omega
  have i1 : (i : Int) < 256 := by omega
  have e0 : mi (redp p) (redp q) i = redp p i - redp q i := rfl
  rw [e0]
  clear h h' e0
  go_enter Try.func35, Try.ntmps35
  go_wp2
  refine wp_region_still_tail 10 (by kernel_rfl) (by kernel_rfl) ?_
  simp only [List.take_succ_cons, List.take_zero, List.drop_succ_cons, List.drop_zero]
  repeat still_step
  still_call (number_same _ (redp p i) _ rfl v1 v2)
  repeat still_step
  still_call (number_same _ (redp q i) _ rfl v3 v4)
  repeat still_step
  still_call (number_same _ (redp p i - redp q i) _ (red_sub_nv _ _) (by omega) (by omega))
  repeat still_step
  refine wpStill_nil ?_
  change wpList _ _ _ _ _ w.drew
  go_wp2
  go_ret
  exact ⟨rfl, 1, rfl⟩
set_option maxHeartbeats 800000 in
set_option maxRecDepth 100000 in
theorem tim1_any (b b' : Nat) (p q : Nat → Int) (i : Nat) (w : World) (hi : i < 256) (h : w.rowIs b 23 256 (ints p)) (h' : w.rowIs b' 23 256 (ints q)) (h1 : -9223372036854775808 ≤ p i ∧ p i ≤ 9223372036854775807) (h2 : -9223372036854775808 ≤ q i ∧ q i ≤ 9223372036854775807) :
    Calls Try.prog 36 #[.int .i64 i, .pointer (some ⟨b, 0, none⟩), .pointer (some ⟨b', 0, none⟩)] w fun e w' => e = .returned (.int .i64 (nv (tim (redp p) (redp q) i))) ∧ ∃ n, w' = w.drewN n := by
  obtain ⟨v1, v2⟩ := h1; obtain ⟨v3, v4⟩ := h2
  have hc := h.cell hi; have hc' := h'.cell hi
  unfold ints at hc hc'
  have i0 : (0 : Int) ≤ (i : Int) := by omega
  have i1 : (i : Int) < 256 := by omega
  have e0 : tim (redp p) (redp q) i = redp p i * redp q i := rfl
  rw [e0]
  clear h h' e0
  go_enter Try.func36, Try.ntmps36
  go_wp2
  refine wp_region_still_tail 9 (by kernel_rfl) (by kernel_rfl) ?_
  simp only [List.take_succ_cons, List.take_zero, List.drop_succ_cons, List.drop_zero]
  repeat still_step
  still_call (number_same _ (redp p i) _ rfl v1 v2)
  repeat still_step
  still_call (number_same _ (redp q i) _ rfl v3 v4)
  repeat still_step
  still_call (product_same _ (near_nv (redp p i)) (near_nv (redp q i)))
  repeat still_step
  refine wpStill_nil ?_
  change wpList _ _ _ _ _ w.drew
  go_wp2
  go_ret
  exact ⟨rfl, 1, rfl⟩
end Go.Proofs.Ytaihlmedeebimaa.Lg
