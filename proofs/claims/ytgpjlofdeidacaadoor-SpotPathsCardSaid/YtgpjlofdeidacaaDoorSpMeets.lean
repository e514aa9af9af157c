/- Walks: SpotMeets. -/
import Derived.Test.YtgpjlofdeidacaaDoorSpPairs
namespace Go.Proofs.YtgpjlofdeidacaaDoor.Sp
set_option linter.all false
open Go.RowKit Fl

theorem div_xor (a b k : Nat) : (a ^^^ b) / 2 ^ k = (a / 2 ^ k) ^^^ (b / 2 ^ k) := by
  rw [← Nat.shiftRight_eq_div_pow, ← Nat.shiftRight_eq_div_pow, ← Nat.shiftRight_eq_div_pow, Nat.shiftRight_xor_distrib]
theorem xor_nil {a b : Nat} (h : a ^^^ b = 0) : a = b := by
  apply Nat.eq_of_testBit_eq
  intro i
  have e := congrArg (Nat.testBit · i) h
  simp only [Nat.testBit_xor, Nat.zero_testBit] at e
  revert e
  cases a.testBit i <;> cases b.testBit i <;> simp
/-- where two places meet -/
theorem meet_same (a b : Nat) : a / 2 ^ bl (a ^^^ b) = b / 2 ^ bl (a ^^^ b) := by
  have h := div_xor a b (bl (a ^^^ b))
  rw [Nat.div_eq_of_lt (bl_spec (a ^^^ b))] at h
  exact xor_nil h.symm
theorem meet_below {a b : Nat} (h : a < b) : ∃ k m, bl (a ^^^ b) = k + 1 ∧ a / 2 ^ k = 2 * m ∧ b / 2 ^ k = 2 * m + 1 ∧ a / 2 ^ (k + 1) = m := by
  have hz : a ^^^ b ≠ 0 := fun e => by rw [xor_nil e] at h; omega
  obtain ⟨k, hk⟩ : ∃ k, bl (a ^^^ b) = k + 1 := ⟨(a ^^^ b).log2, by unfold bl; rw [if_neg hz]⟩
  have h1 := bl_spec (a ^^^ b)
  have h2 := bl_spec' (a ^^^ b) hz
  rw [hk] at h1 h2
  have h3 : (a ^^^ b) / 2 ^ k = 1 := by
    rw [show k + 1 - 1 = k by omega] at h2
    have h4 : (a ^^^ b) / 2 ^ k < 2 := (Nat.div_lt_iff_lt_mul (Nat.two_pow_pos k)).2 (by rw [← Nat.pow_succ']; exact h1)
    have h5 : 1 ≤ (a ^^^ b) / 2 ^ k := (Nat.le_div_iff_mul_le (Nat.two_pow_pos k)).2 (by omega)
    omega
  rw [div_xor] at h3
  have h6 : (a / 2 ^ k) / 2 = (b / 2 ^ k) / 2 := by
    apply xor_nil
    rw [← Nat.xor_div_two, h3]
  have h7 : (a / 2 ^ k + b / 2 ^ k) % 2 = 1 := by
    have := (Nat.xor_mod_two_eq_one (a := a / 2 ^ k) (b := b / 2 ^ k)).1 (by rw [h3])
    omega
  have h8 : a / 2 ^ k ≤ b / 2 ^ k := Nat.div_le_div_right (Nat.le_of_lt h)
  refine ⟨k, a / 2 ^ k / 2, hk, by omega, by omega, ?_⟩
  rw [Nat.pow_succ, ← Nat.div_div_eq_div_mul]
theorem meet_small {a b : Nat} (ha : a < 65536) (hb : b < 65536) : bl (a ^^^ b) ≤ 16 ∧ a / 2 ^ bl (a ^^^ b) < 2 ^ (16 - bl (a ^^^ b)) := by
  have h : bl (a ^^^ b) ≤ 16 := bl_lt _ 16 (Nat.xor_lt_two_pow (by omega) (by omega))
  refine ⟨h, ?_⟩
  rw [Nat.div_lt_iff_lt_mul (Nat.two_pow_pos _), ← Nat.pow_add, show 16 - bl (a ^^^ b) + bl (a ^^^ b) = 16 by omega]
  exact ha
theorem overC {l p a : Nat} (hl : l ≤ 16) (hp : p < 2 ^ (16 - l)) {x y : Nat} (hx : fl l = x) (hy : fl p = y) (ha : a < 65536) (h : a / 2 ^ l = p) : OvC x y (a : Int) true := by
  subst hx hy
  refine ⟨_, is_at hl hp, ?_⟩
  simp only [overF]
  refine decide_eq_true ⟨by omega, by omega, ?_⟩
  rw [← h]; simp

set_option maxHeartbeats 2000000 in
theorem spotMeets_walk (A B : Int) (w : World) (hT : Tab w) (hA : (Lit.int .u16 A).wf = true) (hB : (Lit.int .u16 B).wf = true) :
    Calls Tryd.prog 6 #[.int .u16 A, .int .u16 B] w fun e w' => e = .returned (.bool true) ∧ Below w.heap.size w w' := by
  obtain ⟨a, rfl, ha⟩ := u16_of hA
  obtain ⟨b, rfl, hb⟩ := u16_of hB
  have HD := Lib.hid (head_is w hT)
  clear hT
  obtain ⟨hml, hmp⟩ := meet_small ha hb
  have hms := meet_same a b
  have hcomm : b ^^^ a = a ^^^ b := Nat.xor_comm b a
  obtain ⟨l, hl⟩ : ∃ l, bl (a ^^^ b) = l := ⟨_, rfl⟩
  obtain ⟨p, hp⟩ : ∃ p, a / 2 ^ l = p := ⟨_, rfl⟩
  rw [hl] at hml hmp hms
  rw [hp] at hmp hms
  obtain ⟨sx, hsx⟩ : ∃ x, fl l = x := ⟨_, rfl⟩
  obtain ⟨sy, hsy⟩ : ∃ x, fl p = x := ⟨_, rfl⟩
  have HM1 : Hid (MtC (a : Int) (b : Int) sx sy) := Lib.hid ⟨a, b, rfl, rfl, ha, hb, by unfold meetF; rw [hl, hp]; exact ⟨hsx, hsy⟩⟩
  have HM2 : Hid (MtC (b : Int) (a : Int) sx sy) := Lib.hid ⟨b, a, rfl, rfl, hb, ha, by unfold meetF; rw [hcomm, hl, ← hms]; exact ⟨hsx, hsy⟩⟩
  have HV1 : Hid (OvC sx sy (a : Int) true) := Lib.hid (overC hml hmp hsx hsy ha hp)
  have HV2 : Hid (OvC sx sy (b : Int) true) := Lib.hid (overC hml hmp hsx hsy hb hms.symm)
  have o1 := same hsx (by omega)
  have o2 := same hsy (by have := pow_le (16 - l) (by omega); omega)
  by_cases hab : a = b
  · subst hab
    have hl0 : l = 0 := by rw [← hl, Nat.xor_self]; rfl
    subst hl0
    have hpa : p = a := by rw [← hp]; simp
    subst hpa
    have HL : Hid (LfC (p : Int) sx sy) := Lib.hid ⟨by rw [leafF, if_pos ⟨by omega, by omega⟩]; exact ⟨hsx, by simpa using hsy⟩⟩
    have ba : (p : Int) < 65536 := by omega
    clear hml hmp hms hcomm hl hp hsx hsy ha hb
    go_enter Tryd.func6, Tryd.ntmps6
    go_wp2_with (first
      | (go_at_call 9; refine HD.out.mono ?_; rintro e' w1 ⟨rfl, hbw⟩; have HB := Lib.hid hbw; clear hbw)
      | (go_at_call 23; refine (meet_c HM1.out _).mono ?_; rintro e' w' ⟨rfl, rfl⟩)
      | (go_at_call 20; refine (over_c HV1.out _).mono ?_; rintro e' w' ⟨rfl, rfl⟩)
      | (go_at_call 24; refine (leaf_c HL.out _).mono ?_; rintro e' w' ⟨rfl, rfl⟩)
      | go_in)
    go_ret
    exact ⟨rfl, HB.out⟩
  · have y0 : ((a : Int) == (b : Int)) = false := by rw [beq_eq_false_iff_ne]; omega
    rcases Nat.lt_or_gt_of_ne hab with hlt | hlt
    · obtain ⟨k, m, h1, h2, h3, h4⟩ := meet_below hlt
      rw [hl] at h1
      rw [← h1, hp] at h4
      obtain ⟨ax, hax⟩ : ∃ x, fl k = x := ⟨_, rfl⟩
      obtain ⟨ay, hay⟩ : ∃ x, fl (2 * m) = x := ⟨_, rfl⟩
      obtain ⟨bY, hby⟩ : ∃ x, fl (2 * m + 1) = x := ⟨_, rfl⟩
      have hpk : 2 ^ (16 - k) = 2 * 2 ^ (16 - l) := by rw [← Nat.pow_succ']; congr 1; omega
      have hs0 : Is sx sy (some (l, p)) := by rw [← hsx, ← hsy]; exact is_at hml hmp
      have hsA : Is ax ay (some (k, 2 * m)) := by rw [← hax, ← hay]; exact is_at (by omega) (by rw [hpk]; omega)
      have HD1 : Hid (DnC sx sy false ax ay) := Lib.hid ⟨_, hs0, by simp only [downF, if_neg (show ¬ l = 0 by omega)]; exact ⟨by rw [← hax]; congr 1; omega, by rw [← hay, h4]; simp⟩⟩
      have HO1 : Hid (OtC ax ay ax bY) := Lib.hid ⟨_, hsA, by simp only [otherF, if_neg (show ¬ k = 16 by omega)]; exact ⟨hax, by rw [← hby]; congr 1; omega⟩⟩
      have HV3 : Hid (OvC ax ay (a : Int) true) := Lib.hid (overC (by omega) (by rw [hpk]; omega) hax hay (by omega) h2)
      have HV4 : Hid (OvC ax bY (b : Int) true) := Lib.hid (overC (by omega) (by rw [hpk]; omega) hax hby (by omega) h3)
      have ba : (a : Int) < 65536 := by omega
      have bb : (b : Int) < 65536 := by omega
      have y1 : (a : Int) < (b : Int) := by omega
      clear hml hmp hms hcomm hl hp hsx hsy hlt h1 h2 h3 h4 hax hay hby hpk hs0 hsA hab ha hb
      go_enter Tryd.func6, Tryd.ntmps6
      go_wp2_with (first
        | (go_at_call 9; refine HD.out.mono ?_; rintro e' w1 ⟨rfl, hbw⟩; have HB := Lib.hid hbw; clear hbw)
        | (go_at_call 23; refine (meet_c (by first | exact HM1.out | exact HM2.out) _).mono ?_; rintro e' w' ⟨rfl, rfl⟩)
        | (go_at_call 20; refine (over_c (by first | exact HV1.out | exact HV2.out | exact HV3.out | exact HV4.out) _).mono ?_; rintro e' w' ⟨rfl, rfl⟩)
        | (go_at_call 18; refine (down_c HD1.out _).mono ?_; rintro e' w' ⟨rfl, rfl⟩)
        | (go_at_call 16; refine (other_c HO1.out _).mono ?_; rintro e' w' ⟨rfl, rfl⟩)
        | go_in)
      go_ret
      exact ⟨rfl, HB.out⟩
    · obtain ⟨k, m, h1, h2, h3, h4⟩ := meet_below hlt
      rw [hcomm, hl] at h1
      rw [← h1, ← hms] at h4
      obtain ⟨ax, hax⟩ : ∃ x, fl k = x := ⟨_, rfl⟩
      obtain ⟨ay, hay⟩ : ∃ x, fl (2 * m) = x := ⟨_, rfl⟩
      obtain ⟨bY, hby⟩ : ∃ x, fl (2 * m + 1) = x := ⟨_, rfl⟩
      have hpk : 2 ^ (16 - k) = 2 * 2 ^ (16 - l) := by rw [← Nat.pow_succ']; congr 1; omega
      have hs0 : Is sx sy (some (l, p)) := by rw [← hsx, ← hsy]; exact is_at hml hmp
      have hsA : Is ax ay (some (k, 2 * m)) := by rw [← hax, ← hay]; exact is_at (by omega) (by rw [hpk]; omega)
      have HD1 : Hid (DnC sx sy false ax ay) := Lib.hid ⟨_, hs0, by simp only [downF, if_neg (show ¬ l = 0 by omega)]; exact ⟨by rw [← hax]; congr 1; omega, by rw [← hay, h4]; simp⟩⟩
      have HO1 : Hid (OtC ax ay ax bY) := Lib.hid ⟨_, hsA, by simp only [otherF, if_neg (show ¬ k = 16 by omega)]; exact ⟨hax, by rw [← hby]; congr 1; omega⟩⟩
      have HV3 : Hid (OvC ax ay (b : Int) true) := Lib.hid (overC (by omega) (by rw [hpk]; omega) hax hay (by omega) h2)
      have HV4 : Hid (OvC ax bY (a : Int) true) := Lib.hid (overC (by omega) (by rw [hpk]; omega) hax hby (by omega) h3)
      have ba : (a : Int) < 65536 := by omega
      have bb : (b : Int) < 65536 := by omega
      have y1 : (b : Int) < (a : Int) := by omega
      clear hml hmp hms hcomm hl hp hsx hsy hlt h1 h2 h3 h4 hax hay hby hpk hs0 hsA hab ha hb
      go_enter Tryd.func6, Tryd.ntmps6
      go_wp2_with (first
        | (go_at_call 9; refine HD.out.mono ?_; rintro e' w1 ⟨rfl, hbw⟩; have HB := Lib.hid hbw; clear hbw)
        | (go_at_call 23; refine (meet_c (by first | exact HM1.out | exact HM2.out) _).mono ?_; rintro e' w' ⟨rfl, rfl⟩)
        | (go_at_call 20; refine (over_c (by first | exact HV1.out | exact HV2.out | exact HV3.out | exact HV4.out) _).mono ?_; rintro e' w' ⟨rfl, rfl⟩)
        | (go_at_call 18; refine (down_c HD1.out _).mono ?_; rintro e' w' ⟨rfl, rfl⟩)
        | (go_at_call 16; refine (other_c HO1.out _).mono ?_; rintro e' w' ⟨rfl, rfl⟩)
        | go_in)
      go_ret
      exact ⟨rfl, HB.out⟩
end Go.Proofs.YtgpjlofdeidacaaDoor.Sp
