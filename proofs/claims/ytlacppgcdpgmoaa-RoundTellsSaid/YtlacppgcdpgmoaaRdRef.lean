/- Walks of the document's own: mod, rest, Power2, Parts, Hint, Use. -/
import Derived.Test.YtlacppgcdpgmoaaRdWalkB
namespace Go.Proofs.Ytlacppgcdpgmoaa.Rd
open Go.RowKit
set_option linter.all false

set_option maxHeartbeats 400000 in
theorem mod_is (n x : Int) (w : World) (h : num n = x) (hn : In n) :
    Calls Try.prog 19 #[.int .i64 n] w fun e w' => e = .returned (.int .i64 x) ∧ w' = w := by
  have ht := tmod_num n
  have x1 := num_lo n; have x2 := num_hi n
  rw [h] at ht x1 x2
  obtain ⟨a, b⟩ := tmod_bd n
  obtain ⟨h1, h2⟩ := hn
  clear h
  obtain ⟨y, hy⟩ : ∃ y, n.tmod 8380417 = y := ⟨_, rfl⟩
  rw [hy] at ht a b
  by_cases c : y < 0
  · rw [if_pos c] at ht
    subst ht
    go_enter Try.func19, Try.ntmps19
    go_wp2
    go_ret
    exact ⟨rfl, rfl⟩
  · rw [if_neg c] at ht
    subst ht
    go_enter Try.func19, Try.ntmps19
    go_wp2
    go_ret
    exact ⟨rfl, rfl⟩
set_option maxHeartbeats 400000 in
theorem drest_t (n x : Int) (w : World) (h : rst n = x) (h1 : 0 ≤ n) (h2 : n < 8380417) :
    Calls Try.prog 20 #[.int .i64 n, .int .i64 8192] w fun e w' => e = .returned (.int .i64 x) ∧ w' = w := by
  have ht : n.tmod 8192 = n % 8192 := tmod_pos h1
  have k1 : 0 ≤ n % 8192 := by omega
  have k2 : n % 8192 < 8192 := by omega
  have e1 : 4096 < n % 8192 → n % 8192 - 8192 = x := by unfold rst at h; omega
  have e2 : ¬ 4096 < n % 8192 → n % 8192 = x := by unfold rst at h; omega
  obtain ⟨y, hy⟩ : ∃ y, n % 8192 = y := ⟨_, rfl⟩
  rw [hy] at ht k1 k2 e1 e2
  clear h hy
  by_cases c : 4096 < y
  · have e3 := e1 c
    clear e1 e2
    go_enter Try.func20, Try.ntmps20
    go_wp2
    go_ret
    exact ⟨by go_num, rfl⟩
  · have e3 := e2 c
    clear e1 e2
    go_enter Try.func20, Try.ntmps20
    go_wp2
    go_ret
    exact ⟨by go_num, rfl⟩
set_option maxHeartbeats 400000 in
theorem drest_g (n x : Int) (w : World) (h : rsg n = x) (h1 : 0 ≤ n) (h2 : n < 8380417) :
    Calls Try.prog 20 #[.int .i64 n, .int .i64 523776] w fun e w' => e = .returned (.int .i64 x) ∧ w' = w := by
  have ht : n.tmod 523776 = n % 523776 := tmod_pos h1
  have k1 : 0 ≤ n % 523776 := by omega
  have k2 : n % 523776 < 523776 := by omega
  have e1 : 261888 < n % 523776 → n % 523776 - 523776 = x := by unfold rsg at h; omega
  have e2 : ¬ 261888 < n % 523776 → n % 523776 = x := by unfold rsg at h; omega
  obtain ⟨y, hy⟩ : ∃ y, n % 523776 = y := ⟨_, rfl⟩
  rw [hy] at ht k1 k2 e1 e2
  clear h hy
  by_cases c : 261888 < y
  · have e3 := e1 c
    clear e1 e2
    go_enter Try.func20, Try.ntmps20
    go_wp2
    go_ret
    exact ⟨by go_num, rfl⟩
  · have e3 := e2 c
    clear e1 e2
    go_enter Try.func20, Try.ntmps20
    go_wp2
    go_ret
    exact ⟨by go_num, rfl⟩
set_option maxHeartbeats 800000 in
theorem dpower2_any (n : Int) (w : World) (hn : In n) :
    Calls Try.prog 10 #[.int .i64 n] w fun e w' => e = .returned (.tuple #[.int .i64 (ph2 (num n)), .int .i64 (rst (num n))]) ∧ w' = w := by
  have a1 := num_lo n; have a2 := num_hi n
  obtain ⟨x, hx⟩ : ∃ x, num n = x := ⟨_, rfl⟩
  have HX := Lib.hid hx
  rw [hx] at a1 a2 ⊢
  clear hx
  obtain ⟨b1, b2, b3⟩ := rst_spec x
  obtain ⟨b4, b5⟩ := rst_hi a1 a2
  obtain ⟨r, hr⟩ : ∃ r, rst x = r := ⟨_, rfl⟩
  obtain ⟨h, hh⟩ : ∃ h, ph2 x = h := ⟨_, rfl⟩
  have HR := Lib.hid hr
  rw [hr] at b1 b2 b3 ⊢
  rw [hh] at b3 b4 b5 ⊢
  clear hr hh
  have HN := Lib.hid hn; clear hn
  go_enter Try.func10, Try.ntmps10
  go_wp2_with fail
  refine (mod_is n x _ HX.out HN.out).mono ?_
  rintro e w' ⟨rfl, rfl⟩
  go_wp2_with fail
  refine (drest_t x r _ HR.out a1 a2).mono ?_
  rintro e w' ⟨rfl, rfl⟩
  have hd : (8192 * h) / 8192 = h := by omega
  go_wp2
  go_ret2
  exact ⟨by go_num, rfl⟩
set_option maxHeartbeats 800000 in
theorem dparts_any (n : Int) (w : World) (hn : In n) :
    Calls Try.prog 12 #[.int .i64 n] w fun e w' => e = .returned (.tuple #[.int .i64 (hi (num n)), .int .i64 (lo (num n))]) ∧ w' = w := by
  have a1 := num_lo n; have a2 := num_hi n
  obtain ⟨x, hx⟩ : ∃ x, num n = x := ⟨_, rfl⟩
  have HX := Lib.hid hx
  rw [hx] at a1 a2 ⊢
  clear hx
  have c1 : -261887 ≤ rsg x ∧ rsg x ≤ 261888 := by unfold rsg; omega
  obtain ⟨c2, c3⟩ := c1
  have k0 : 0 ≤ x - rsg x := by unfold rsg; omega
  have k1 : x - rsg x ≤ 8380416 := by unfold rsg; omega
  obtain ⟨d1, d2, d3, d4, _⟩ := cut_is a1 a2
  have u1 : x - rsg x = 8380416 → hi x = 0 ∧ lo x = rsg x - 1 := fun c => by unfold hi lo; rw [if_pos c, if_pos c]; exact ⟨rfl, rfl⟩
  have u2 : ¬ x - rsg x = 8380416 → (x - rsg x).tdiv 523776 = hi x ∧ lo x = rsg x := fun c => by unfold hi lo; rw [if_neg c, if_neg c]; exact ⟨Int.tdiv_eq_ediv_of_nonneg k0, rfl⟩
  obtain ⟨r, hr⟩ : ∃ r, rsg x = r := ⟨_, rfl⟩
  have HR := Lib.hid hr
  rw [hr] at u1 u2 c2 c3 k0 k1
  clear hr
  obtain ⟨h, hh⟩ : ∃ h, hi x = h := ⟨_, rfl⟩
  obtain ⟨l, hl⟩ : ∃ l, lo x = l := ⟨_, rfl⟩
  rw [hh] at u1 u2 d1 d2 ⊢
  rw [hl] at u1 u2 d3 d4 ⊢
  clear hh hl
  have HN := Lib.hid hn; clear hn
  by_cases c : x - r = 8380416
  · obtain ⟨v1, v2⟩ := u1 c
    clear u1 u2
    subst v1 v2
    go_enter Try.func12, Try.ntmps12
    go_wp2_with fail
    refine (mod_is n x _ HX.out HN.out).mono ?_
    rintro e w' ⟨rfl, rfl⟩
    go_wp2_with fail
    refine (drest_g x r _ HR.out a1 a2).mono ?_
    rintro e w' ⟨rfl, rfl⟩
    go_wp2
    go_ret2
    exact ⟨by go_num, rfl⟩
  · obtain ⟨v1, v2⟩ := u2 c
    clear u1 u2
    subst v2
    go_enter Try.func12, Try.ntmps12
    go_wp2_with fail
    refine (mod_is n x _ HX.out HN.out).mono ?_
    rintro e w' ⟨rfl, rfl⟩
    go_wp2_with fail
    refine (drest_g x l _ HR.out a1 a2).mono ?_
    rintro e w' ⟨rfl, rfl⟩
    go_wp2
    go_ret2
    exact ⟨by go_num, rfl⟩
set_option maxHeartbeats 800000 in
theorem dhint_any (z n : Int) (w : World) (hz : In z) (hn : In n) :
    Calls Try.prog 14 #[.int .i64 z, .int .i64 n] w fun e w' => e = .returned (.bool (hint z n)) ∧ w' = w := by
  have HN := Lib.hid hn; have HM := Lib.hid hz; clear hn hz
  have a1 := num_lo n; have a2 := num_hi n; have a3 := num_lo z; have a4 := num_hi z
  have HH : Hid (decide (hi (num (num n + num z)) ≠ hi (num n)) = hint z n) := Lib.hid rfl
  obtain ⟨x, hx⟩ : ∃ x, num n = x := ⟨_, rfl⟩
  obtain ⟨y, hy⟩ : ∃ y, num z = y := ⟨_, rfl⟩
  have HX := Lib.hid hx; have HY := Lib.hid hy
  rw [hx] at a1 a2
  rw [hy] at a3 a4
  rw [hx, hy] at HH
  go_enter Try.func14, Try.ntmps14
  go_wp2_with fail
  refine (dparts_any n _ HN.out).mono ?_
  rintro e w' ⟨rfl, rfl⟩
  rw [hx]
  clear hx hy
  obtain ⟨h, hh⟩ : ∃ h, hi x = h := ⟨_, rfl⟩
  rw [hh] at HH ⊢
  clear hh
  go_wp2_with fail
  refine (mod_is n x _ HX.out HN.out).mono ?_
  rintro e w' ⟨rfl, rfl⟩
  go_wp2_with fail
  refine (mod_is z y _ HY.out HM.out).mono ?_
  rintro e w' ⟨rfl, rfl⟩
  go_wp2_with fail
  refine (dparts_any (x + y) _ ⟨by omega, by omega⟩).mono ?_
  rintro e w' ⟨rfl, rfl⟩
  obtain ⟨h', hh⟩ : ∃ h, hi (num (x + y)) = h := ⟨_, rfl⟩
  rw [hh] at HH ⊢
  clear hh
  go_wp2
  go_ret
  exact ⟨by rw [← HH.out]; show Ending.returned (Value.bool (h != h')) = _; congr 2; rw [bne_comm, Bool.eq_iff_iff]; simp, rfl⟩
set_option maxHeartbeats 800000 in
theorem duse_any (t : Bool) (n : Int) (w : World) (hn : In n) :
    Calls Try.prog 16 #[.bool t, .int .i64 n] w fun e w' => e = .returned (.int .i64 (use t (hi (num n)) (lo (num n)))) ∧ w' = w := by
  obtain ⟨d1, d2, d3, d4, _⟩ := cut_is (num_lo n) (num_hi n)
  have HP := Lib.hid (dparts_any n w hn); clear hn
  obtain ⟨h, hh⟩ : ∃ h, hi (num n) = h := ⟨_, rfl⟩
  obtain ⟨l, hl⟩ : ∃ l, lo (num n) = l := ⟨_, rfl⟩
  rw [hh, hl] at HP
  rw [hh] at d1 d2 ⊢
  rw [hl] at d3 d4 ⊢
  clear hh hl
  cases t
  · rw [use_false]
    go_enter Try.func16, Try.ntmps16
    go_wp2_with fail
    refine HP.out.mono ?_
    rintro e w' ⟨rfl, rfl⟩
    go_wp2
    go_ret
    exact ⟨rfl, rfl⟩
  · by_cases p : 0 < l
    · rw [use_up p]
      have hm : (h + 1).tmod 16 = (h + 1) % 16 := tmod_pos (by omega)
      go_enter Try.func16, Try.ntmps16
      go_wp2_with fail
      refine HP.out.mono ?_
      rintro e w' ⟨rfl, rfl⟩
      go_wp2
      go_ret
      exact ⟨by go_num, rfl⟩
    · rw [use_down p]
      have hm : (h + 15).tmod 16 = (h + 15) % 16 := tmod_pos (by omega)
      go_enter Try.func16, Try.ntmps16
      go_wp2_with fail
      refine HP.out.mono ?_
      rintro e w' ⟨rfl, rfl⟩
      go_wp2
      go_ret
      exact ⟨by go_num, rfl⟩
end Go.Proofs.Ytlacppgcdpgmoaa.Rd
