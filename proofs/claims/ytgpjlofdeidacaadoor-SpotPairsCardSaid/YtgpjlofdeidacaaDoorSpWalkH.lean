/- Walks: Ldexp of two, Mod by two, Other. -/
import Derived.Test.YtgpjlofdeidacaaDoorSpWalkG
namespace Go.Proofs.YtgpjlofdeidacaaDoor.Sp
set_option linter.all false
open Go.RowKit Fl

theorem two_pos : Pos 4611686018427387904 2 := ⟨fl2, by decide, by decide⟩

set_option maxHeartbeats 1000000 in
theorem ldexp0_is (e : Int) (l z : Nat) (w : World) (he : e + 1 = (l : Int)) (hl : l ≤ 52) (hz : (l + 1023) * 2 ^ 52 = z) :
    Calls Tryd.prog 61 #[.float .f64 4611686018427387904, .int .i64 e] w fun e w' => e = .returned (.float .f64 z) ∧ w = w' := by
  have HP := Lib.hid two_pos
  have o := two_pos.zero
  have h1 := bits_run 4611686018427387904
  rw [show ((4611686018427387904 : Nat) : Int) = 4611686018427387904 from rfl] at h1
  obtain ⟨E, hE⟩ : ∃ E, l + 1023 = E := ⟨_, rfl⟩
  rw [hE] at hz
  have x2 : bits .and .i64 1024 2047 = 1024 := by decide
  have x3 : (l : Int) + 1023 = (E : Int) := by omega
  have x4 : bits .andNot .u64 4611686018427387904 9218868437227405312 = 0 := by decide
  have x5 : IntKind.u64.wrap ((E : Int) * 4503599627370496) = (z : Int) := by rw [IntKind.wrap_u64]; omega
  have x6 := u64_or_nat 0 z (by decide) (by omega)
  rw [Nat.zero_or, show ((0 : Nat) : Int) = 0 from rfl] at x6
  have h2 := word_run z
  have m1 := Fl.mul 1 (2 ^ l) (by decide) (Nat.pow_lt_pow_right (by decide) (by omega)) (by rw [Nat.one_mul]; exact Nat.pow_lt_pow_right (by decide) (by omega))
  rw [fl1, Nat.one_mul, fl_pow l hl, hE, hz] at m1
  have f1 := fmul m1
  have b1 : (E : Int) ≤ 2047 := by omega
  have b2 : (l : Int) ≤ 52 := by omega
  have b3 : (0 : Int) ≤ (l : Int) := by omega
  have y1 : ¬ ((l : Int) < -1075) := by omega
  have y2 : ¬ ((1023 : Int) < (l : Int)) := by omega
  have y3 : ¬ ((l : Int) < -1022) := by omega
  clear hl hz hE m1
  go_enter Tryd.func61, Tryd.ntmps61
  go_wp2_with (first | (go_at_call 51; refine (isInf_is _ _ _ HP.out).mono ?_; rintro e' w' ⟨rfl, rfl⟩) | (go_at_call 50; refine (isNaN_is _ _ _ HP.out).mono ?_; rintro e' w' ⟨rfl, rfl⟩) | (go_at_call 64; refine (normalize_is _ _ _ HP.out).mono ?_; rintro e' w' ⟨rfl, rfl⟩) | go_in)
  go_ret
  exact ⟨rfl, rfl⟩
theorem ldexp_is (e : Int) (l z : Nat) (w : World) (he : e + 1 = (l : Int)) (hl : l ≤ 52) (hz : (l + 1023) * 2 ^ 52 = z) :
    Calls Tryd.prog 55 #[.float .f64 4611686018427387904, .int .i64 e] w fun e w' => e = .returned (.float .f64 z) ∧ w = w' := by
  have C1 := Lib.hid (ldexp0_is e l z w he hl hz)
  clear he hl hz
  go_enter Tryd.func55, Tryd.ntmps55
  go_wp2_with (first | (go_at_call 61; refine C1.out.mono ?_; rintro e' w' ⟨rfl, rfl⟩) | go_in)
  go_ret
  exact ⟨rfl, rfl⟩

theorem zero_ab : Ab 0 0 := ⟨0, by decide, .inl fl0.symm, fl0⟩
set_option maxHeartbeats 1000000 in
theorem isNaN_any (x q : Nat) (w : World) (hx : fl q = x) (hq : q < 131072) : Calls Tryd.prog 50 #[.float .f64 x] w fun e w' => e = .returned (.bool false) ∧ w = w' := by
  by_cases h : q = 0
  · subst h
    obtain rfl : 0 = x := by rw [← hx]; exact fl0.symm
    have o : FloatKind.f64.format.order 0 0 = some .eq := by decide
    clear hx
    go_enter Tryd.func50, Tryd.ntmps50
    go_wp2
    go_ret
    exact ⟨rfl, rfl⟩
  · exact isNaN_is x q w ⟨hx, by omega, hq⟩
set_option maxHeartbeats 1000000 in
theorem isInf_any (x q : Nat) (w : World) (hx : fl q = x) (hq : q < 131072) : Calls Tryd.prog 51 #[.float .f64 x, .int .i64 0] w fun e w' => e = .returned (.bool false) ∧ w = w' := by
  by_cases h : q = 0
  · subst h
    obtain rfl : 0 = x := by rw [← hx]; exact fl0.symm
    have o : FloatKind.f64.format.order 0 9218868437227405311 = some .lt := by have := Fl.finite (q := 0) (by decide); rw [fl0] at this; exact this
    have C1 := Lib.hid zero_ab
    clear hx
    go_enter Tryd.func51, Tryd.ntmps51
    go_wp2_with (first | (go_at_call 39; refine (abs_at C1.out _).mono ?_; rintro e' w' ⟨rfl, rfl⟩) | go_in)
    go_ret
    exact ⟨rfl, rfl⟩
  · exact isInf_is x q w ⟨hx, by omega, hq⟩

/-- which whole number a value is -/
def wholeOf : Value → Nat
  | .float _ b => (((Ieee.double.read b).toInt .zero).getD 0).toNat
  | _ => 0
theorem wholeOf_fl (k : FloatKind) (q : Nat) (h : q < 2 ^ 53) : wholeOf (.float k (fl q)) = q := by
  simp [wholeOf, Fl.toInt q h]

theorem odd_step {k : Nat} (h : 2 ≤ k) (hk : k < 2 ^ 53) : (k - 2 ^ k.log2) % 2 = k % 2 ∧ 2 ^ k.log2 ≤ k ∧ 1 ≤ 2 ^ k.log2 ∧ k.log2 ≤ 52 := by
  have h1 := Nat.log2_self_le (n := k) (by omega)
  have h2 : 1 ≤ k.log2 := by rw [Nat.le_log2 (by omega)]; exact h
  have h3 : 2 ^ k.log2 = 2 * 2 ^ (k.log2 - 1) := by rw [← Nat.pow_succ']; congr 1; omega
  have h4 := Nat.two_pow_pos k.log2
  have h5 := log2_le k hk
  omega

set_option maxHeartbeats 2000000 in
theorem mod0_is (p x y : Nat) (w : World) (hx : fl p = x) (hp : p < 131072) (hy : fl (p % 2) = y) :
    Calls Tryd.prog 43 #[.float .f64 x, .float .f64 4611686018427387904] w fun e w' => e = .returned (.float .f64 y) ∧ w = w' := by
  have HX := Lib.hid hx; have HY := Lib.hid hy; have HP2 := Lib.hid two_pos; have HPP := Lib.hid hp
  have o1 := two_pos.zero
  have hox : FloatKind.f64.format.order x 0 = some .gt ∨ FloatKind.f64.format.order x 0 = some .eq := by rw [← hx]; exact (nz_fl p).ge (by omega)
  have o2 : (FloatKind.f64.format.order x 0 == some .lt) = false := by rcases hox with h | h <;> rw [h] <;> rfl
  have HF := Lib.hid (show Calls Tryd.prog 54 #[.float .f64 4611686018427387904] w fun e w' => e = .returned (.tuple #[.float .f64 4602678819172646912, .int .i64 2]) ∧ w = w' from frexp_is 4611686018427387904 2 0 1 4602678819172646912 w two_pos (by decide) (by decide) (by decide) (by decide))
  clear hx hy hp hox
  go_enter Tryd.func43, Tryd.ntmps43
  go_wp2_with (first | (go_at_call 51; refine (isInf_any _ _ _ HX.out HPP.out).mono ?_; rintro e' w' ⟨rfl, rfl⟩) | (go_at_call 50; first | (refine (isNaN_is _ _ _ HP2.out).mono ?_; rintro e' w' ⟨rfl, rfl⟩) | (refine (isNaN_any _ _ _ HX.out HPP.out).mono ?_; rintro e' w' ⟨rfl, rfl⟩)) | (go_at_call 39; refine (abs_at HP2.out.abs _).mono ?_; rintro e' w' ⟨rfl, rfl⟩) | (go_at_call 54; refine HF.out.mono ?_; rintro e' w' ⟨rfl, rfl⟩) | go_in)
  go_loopw [7] (fun v W => ∃ k : Nat, v = .float .f64 (fl k) ∧ Hid (k < 131072) ∧ Hid (k % 2 = p % 2) ∧ w = W) (fun v _ => wholeOf v)
  case atStart => exact ⟨p, by rw [HX.out], HPP, Lib.hid rfl, rfl⟩
  case round =>
    obtain ⟨k, rfl, HK, HKP, rfl⟩ := hrel
    have hord := order_nz (nz_fl k) (nz_fl 2) (by have := HK.out; omega) (by decide)
    rw [fl2] at hord
    obtain ⟨kx, hkx⟩ : ∃ kx, fl k = kx := ⟨_, rfl⟩
    rw [hkx] at hord
    rw [hkx]
    by_cases h2 : 2 ≤ k
    · have HP3 : Hid (Pos kx k) := Lib.hid ⟨hkx, by omega, HK.out⟩
      obtain ⟨f, hf1, hf2, -⟩ := fields (q := k) (by omega) (by have := HK.out; omega)
      obtain ⟨hs1, hs2, hs3, hs4⟩ := odd_step h2 (by have := HK.out; omega)
      rw [hkx] at hf1
      obtain ⟨l, hl⟩ : ∃ l, k.log2 = l := ⟨_, rfl⟩
      rw [hl] at hf1 hs1 hs2 hs3 hs4
      obtain ⟨z, hz⟩ : ∃ z, 1022 * 2 ^ 52 + f = z := ⟨_, rfl⟩
      have hoz := order_half f hf2
      rw [hz] at hoz
      have hoz2 : (FloatKind.f64.format.order z 4602678819172646912 == some .lt) = false := by rcases hoz with h | h <;> (rw [show FloatKind.f64.format = Ieee.double from rfl, h]; rfl)
      have HFK := fun w => Lib.hid (frexp_is kx k f l z w HP3.out hf1 hf2 hs4 hz)
      have sb := Fl.sub k (2 ^ l) (by have := HK.out; omega) hs2
      rw [hkx, fl_pow l hs4] at sb
      obtain ⟨zl, hzl⟩ : ∃ zl, (l + 1023) * 2 ^ 52 = zl := ⟨_, rfl⟩
      have HL := fun e w he => Lib.hid (ldexp_is e l zl w he hs4 hzl)
      rw [hzl] at sb
      have f1 := fsub sb
      obtain ⟨k2, hk2⟩ : ∃ k2, k - 2 ^ l = k2 := ⟨_, rfl⟩
      rw [hk2] at f1 hs1
      have HK2 : Hid (k2 < 131072) := Lib.hid (by have := HK.out; omega)
      have HKP2 : Hid (k2 % 2 = p % 2) := Lib.hid (hs1.trans HKP.out)
      have HM : Hid (wholeOf (.float .f64 (fl k2)) < wholeOf (.float .f64 kx)) := Lib.hid (by rw [wholeOf_fl _ _ (by have := HK2.out; omega), ← hkx, wholeOf_fl _ _ (by have := HK.out; omega)]; omega)
      have hcase : FloatKind.f64.format.order kx 4611686018427387904 = some .gt ∨ FloatKind.f64.format.order kx 4611686018427387904 = some .eq := by
        rw [show FloatKind.f64.format = Ieee.double from rfl, hord]
        rcases Nat.lt_or_eq_of_le h2 with h | h
        · left; rw [Nat.compare_eq_gt.2 h]
        · right; rw [Nat.compare_eq_eq.2 h.symm]
      have b1 : (l : Int) ≤ 52 := by omega
      have b0 : (0 : Int) ≤ (l : Int) := by omega
      have b2 : (l : Int) + 1 - 2 + 1 = (l : Int) := by omega
      have B2 := Lib.hid b2
      clear hord hf1 hf2 hs1 hs2 hs3 hs4 hl hz hoz sb hk2 h2 hzl hkx b2
      rcases hcase with hc | hc
      all_goals
        go_wp2_with (first | (go_at_call 54; refine (HFK _).out.mono ?_; rintro e' w' ⟨rfl, rfl⟩) | (go_at_call 55; refine (HL _ _ B2.out).out.mono ?_; rintro e' w' ⟨rfl, rfl⟩) | go_in)
        go_roundw
        case rel => exact ⟨k2, rfl, HK2, HKP2, trivial⟩
        case measure => exact HM.out
    · have hc : FloatKind.f64.format.order kx 4611686018427387904 = some .lt := by rw [show FloatKind.f64.format = Ieee.double from rfl, hord, Nat.compare_eq_lt.2 (by omega)]
      have HR : Hid (kx = y) := Lib.hid (by rw [← hkx, ← HY.out, ← HKP.out, Nat.mod_eq_of_lt (by omega)])
      clear hord hkx h2
      go_wp2
      go_ret
      exact ⟨by rw [← HR.out]; rfl, rfl⟩
theorem mod_is (p x y : Nat) (w : World) (hx : fl p = x) (hp : p < 131072) (hy : fl (p % 2) = y) :
    Calls Tryd.prog 34 #[.float .f64 x, .float .f64 4611686018427387904] w fun e w' => e = .returned (.float .f64 y) ∧ w = w' := by
  have C1 := Lib.hid (mod0_is p x y w hx hp hy)
  clear hx hp hy
  go_enter Tryd.func34, Tryd.ntmps34
  go_wp2_with (first | (go_at_call 43; refine C1.out.mono ?_; rintro e' w' ⟨rfl, rfl⟩) | go_in)
  go_ret
  exact ⟨rfl, rfl⟩

/-- the spot beside -/
def otherF : Option (Nat × Nat) → Nat × Nat
  | some (l, p) => if l = 16 then (0, 0) else (l, p + 1 - 2 * (p % 2))
  | none => (0, 0)
theorem pow_half {l p : Nat} (h : p < 2 ^ (16 - l)) (hl : l ≤ 16) (h16 : l ≠ 16) : p / 2 < 2 ^ (16 - (l + 1)) ∧ 2 ^ (16 - l) = 2 * 2 ^ (16 - (l + 1)) := by
  have e : 2 ^ (16 - l) = 2 * 2 ^ (16 - (l + 1)) := by rw [← Nat.pow_succ']; congr 1; omega
  omega
/-- what Up tells is a spot, always -/
theorem is_up {re im : Nat} {o : Option (Nat × Nat)} (h : Is re im o) : Is (fl (upF o).1) (fl (upF o).2) (some (upF o)) := by
  rcases o with _ | ⟨l, p⟩
  · exact ⟨nz_fl _, nz_fl _, by decide, by decide⟩
  · have hs : Spot re im 16 l p := h
    by_cases h16 : l = 16
    · simp only [upF, if_pos h16]
      exact ⟨nz_fl _, nz_fl _, by decide, by decide⟩
    · simp only [upF, if_neg h16]
      exact ⟨nz_fl _, nz_fl _, by have := hs.lev; omega, (pow_half hs.pl hs.lev h16).1⟩

set_option maxHeartbeats 1000000 in
theorem other_is (re im x y : Nat) (o : Option (Nat × Nat)) (w : World) (ho : Is re im o) (hn : Ws (otherF o) x y) :
    Calls Tryd.prog 16 #[.complex .f64 re im] w fun e w' => e = .returned (.complex .f64 x y) ∧ w = w' := by
  obtain ⟨q, b, px, py, hpt, hpx, hq, hpar, hdn⟩ : ∃ q b px py, Pt re im px py b ∧ fl q = py ∧ q < 131072 ∧ True ∧ downF (decide (q % 2 = 0)) (some (upF o)) = otherF o := by
    rcases o with _ | ⟨l, p⟩
    · exact ⟨0, false, 0, 0, ⟨none, ho, .inr ⟨rfl, rfl, rfl, rfl⟩⟩, fl0, by decide, trivial, rfl⟩
    · have hs : Spot re im 16 l p := ho
      refine ⟨p, true, fl l, fl p, ⟨some (l, p), ho, .inl ⟨l, p, rfl, rfl, rfl, rfl⟩⟩, rfl, by have := hs.small (by decide); omega, trivial, ?_⟩
      by_cases h16 : l = 16
      · simp [upF, otherF, downF, h16]
      · simp only [upF, otherF, if_neg h16, downF, if_neg (Nat.succ_ne_zero l)]
        rcases Nat.mod_two_eq_zero_or_one p with h | h
        · rw [h]; simp; omega
        · rw [h]; simp; omega
  have C1 := Lib.hid hpt
  have C2 := Lib.hid (mod_is q py (fl (q % 2)) w hpx hq rfl)
  have hup := is_up ho
  obtain ⟨ux, hux⟩ : ∃ x, fl (upF o).1 = x := ⟨_, rfl⟩
  obtain ⟨uy, huy⟩ : ∃ x, fl (upF o).2 = x := ⟨_, rfl⟩
  have C3 := Lib.hid (up_is re im ux uy o w ho ⟨hux, huy⟩)
  rw [hux, huy] at hup
  have C4 := Lib.hid (down_is ux uy x y (decide (q % 2 = 0)) _ w hup (by rw [hdn]; exact hn))
  have hz : (FloatKind.f64.format.order (fl (q % 2)) 0 == some .eq) = decide (q % 2 = 0) := by
    have := order_nz (nz_fl (q % 2)) (nz_fl 0) (by omega) (by decide)
    rw [fl0] at this
    rw [show FloatKind.f64.format = Ieee.double from rfl, this]
    rcases Nat.mod_two_eq_zero_or_one q with h | h <;> rw [h] <;> rfl
  obtain ⟨mx, hmx⟩ : ∃ x, fl (q % 2) = x := ⟨_, rfl⟩
  rw [hmx] at C2 hz
  obtain ⟨isl, hisl⟩ : ∃ b, decide (q % 2 = 0) = b := ⟨_, rfl⟩
  rw [hisl] at C4 hz
  clear hn ho hpt hpx hdn hup hux huy hmx hisl hq
  go_enter Tryd.func16, Tryd.ntmps16
  go_wp2_with (first | (go_at_call 30; refine (parts_is C1.out _).mono ?_; rintro e' w' ⟨rfl, rfl⟩) | (go_at_call 34; refine C2.out.mono ?_; rintro e' w' ⟨rfl, rfl⟩) | (go_at_call 14; refine C3.out.mono ?_; rintro e' w' ⟨rfl, rfl⟩) | (go_at_call 18; refine C4.out.mono ?_; rintro e' w' ⟨rfl, rfl⟩) | go_in)
  go_ret
  exact ⟨rfl, rfl⟩
end Go.Proofs.YtgpjlofdeidacaaDoor.Sp
