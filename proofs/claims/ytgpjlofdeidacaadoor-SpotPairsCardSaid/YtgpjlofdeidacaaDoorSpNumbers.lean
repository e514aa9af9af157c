/- Walks: SpotNumbers. -/
import Derived.Test.YtgpjlofdeidacaaDoorSpBelow
namespace Go.Proofs.YtgpjlofdeidacaaDoor.Sp
set_option linter.all false
open Go.RowKit Fl

theorem parts_of (n : Nat) (h : 1 ≤ n) : ∃ l p, 2 ^ l * (2 * p + 1) = n := by
  induction n using Nat.strongRecOn with
  | _ n ih =>
    rcases Nat.mod_two_eq_zero_or_one n with h2 | h2
    · obtain ⟨l, p, e⟩ := ih (n / 2) (by omega) (by omega)
      refine ⟨l + 1, p, ?_⟩
      rw [Nat.pow_succ, Nat.mul_comm (2 ^ l) 2, Nat.mul_assoc, e]
      omega
    · exact ⟨0, n / 2, by rw [Nat.pow_zero, Nat.one_mul]; omega⟩
theorem parts_small {n l p : Nat} (h : 2 ^ l * (2 * p + 1) = n) (hn : n ≤ 131071) : l ≤ 16 ∧ p < 2 ^ (16 - l) := by
  have h1 : 2 ^ l ≤ n := by rw [← h]; exact Nat.le_mul_of_pos_right _ (by omega)
  have hl : l ≤ 16 := by
    rcases Nat.lt_or_ge 16 l with h2 | h2
    · have : 2 ^ 17 ≤ 2 ^ l := Nat.pow_le_pow_right (by decide) h2
      omega
    · exact h2
  refine ⟨hl, ?_⟩
  rcases Nat.lt_or_ge p (2 ^ (16 - l)) with h2 | h2
  · exact h2
  · exfalso
    have h3 : 2 ^ l * (2 * 2 ^ (16 - l) + 1) ≤ 2 ^ l * (2 * p + 1) := Nat.mul_le_mul_left _ (by omega)
    have h4 : 2 ^ l * (2 * 2 ^ (16 - l)) = 131072 := by
      rw [← Nat.pow_succ', ← Nat.pow_add, show l + (16 - l + 1) = 17 by omega]
    rw [Nat.mul_add, h4] at h3
    omega
theorem odd_number {l p : Nat} : ((2 * p + 1) * 2 ^ l - 1) % 2 = 0 ↔ l = 0 := by
  constructor
  · intro h
    rcases Nat.eq_zero_or_pos l with h0 | h0
    · exact h0
    · exfalso
      have e : 2 ^ l = 2 * 2 ^ (l - 1) := by rw [← Nat.pow_succ']; congr 1; omega
      have h1 : 1 ≤ (2 * p + 1) * 2 ^ (l - 1) := Nat.mul_pos (by omega) (Nat.two_pow_pos _)
      rw [e, show (2 * p + 1) * (2 * 2 ^ (l - 1)) = 2 * ((2 * p + 1) * 2 ^ (l - 1)) by rw [Nat.mul_left_comm]] at h
      omega
  · rintro rfl
    omega

set_option maxHeartbeats 2000000 in
theorem spotNumbers_walk (X L P : Int) (w : World) (hT : Tab w) (hX : (Lit.int .u32 X).wf = true) (hL : (Lit.int .u8 L).wf = true) (hP : (Lit.int .u16 P).wf = true) :
    Calls Tryd.prog 4 #[.int .u32 X, .int .u8 L, .int .u16 P] w fun e w' => e = .returned (.bool true) ∧ Below w.heap.size w w' := by
  obtain ⟨X, rfl, hX⟩ := u32_of hX
  obtain ⟨L, rfl, hL⟩ := u8_of hL
  obtain ⟨P, rfl, hP⟩ := u16_of hP
  have HD := Lib.hid (head_is w hT)
  have HT := Lib.hid hT
  clear hT
  obtain ⟨i, hi⟩ : ∃ i, X % 131071 = i := ⟨_, rfl⟩
  have bi : i < 131071 := by omega
  have x0 : (X : Int).tmod 131071 = (i : Int) := by rw [← hi]; rfl
  obtain ⟨a, b, hab⟩ := parts_of (i + 1) (by omega)
  obtain ⟨ha, hb⟩ := parts_small hab (by omega)
  obtain ⟨ax, hax⟩ : ∃ x, fl a = x := ⟨_, rfl⟩
  obtain ⟨ay, hay⟩ : ∃ x, fl b = x := ⟨_, rfl⟩
  have hsA := is_at ha hb
  rw [hax, hay] at hsA
  have HA : Hid (AtC (i : Int) ax ay) := Lib.hid ⟨i, a, b, rfl, hab, ha, hb, hax, hay⟩
  have HI : Hid (IdxC ax ay (i : Int)) := Lib.hid ⟨_, hsA, by
    simp only [indexF]
    have e : (((2 ^ a * (2 * b + 1) : Nat)) : Int) = ((i + 1 : Nat) : Int) := by rw [hab]
    rw [Nat.mul_comm] at e
    simp at e ⊢
    omega⟩
  obtain ⟨l, hl⟩ : ∃ l, L % 17 = l := ⟨_, rfl⟩
  obtain ⟨q, hq⟩ : ∃ q, 16 - l = q := ⟨_, rfl⟩
  obtain ⟨n, hn⟩ : ∃ n, 2 ^ q = n := ⟨_, rfl⟩
  obtain ⟨p, hp⟩ : ∃ p, P % n = p := ⟨_, rfl⟩
  have b0 : l ≤ 16 := by omega
  have bn : 1 ≤ n := by rw [← hn]; exact Nat.two_pow_pos q
  have bn2 : n ≤ 65536 := by rw [← hn]; exact pow_le q (by omega)
  have bp : p < n := by rw [← hp]; exact Nat.mod_lt _ (by omega)
  have x1 : (L : Int).tmod 17 = (l : Int) := by rw [← hl]; rfl
  have x2 : 16 - (l : Int) = (q : Int) := by omega
  have x3 : (2 : Int) ^ q = (n : Int) := by rw [← hn]; simp
  have x4 : (P : Int).tmod (n : Int) = (p : Int) := by rw [← hp]; rfl
  have hps : p < 2 ^ (16 - l) := by rw [hq, hn]; exact bp
  have hsS := is_at b0 hps
  obtain ⟨sx, hsx⟩ : ∃ x, fl l = x := ⟨_, rfl⟩
  obtain ⟨sy, hsy⟩ : ∃ x, fl p = x := ⟨_, rfl⟩
  have n1 := nearest_is l
  have n2 := nearest_is p
  rw [hsx] at n1
  rw [hsy] at n2
  rw [hsx, hsy] at hsS
  obtain ⟨N, hN⟩ : ∃ N, (2 * p + 1) * 2 ^ l - 1 = N := ⟨_, rfl⟩
  have hN1 : (2 * p + 1) * 2 ^ l = N + 1 := by have : 1 ≤ (2 * p + 1) * 2 ^ l := Nat.mul_pos (by omega) (Nat.two_pow_pos l); omega
  have bN := number_lt hps b0
  have HS : Hid (IdxC sx sy (N : Int)) := Lib.hid ⟨_, hsS, by
    simp only [indexF]
    have e : (((2 * p + 1) * 2 ^ l : Nat) : Int) = ((N + 1 : Nat) : Int) := by rw [hN1]
    simp at e ⊢
    omega⟩
  have HN : Hid (AtC (N : Int) sx sy) := Lib.hid ⟨N, l, p, rfl, by rw [Nat.mul_comm]; exact hN1, b0, hps, hsx, hsy⟩
  obtain ⟨r, hr⟩ : ∃ r, N % 2 = r := ⟨_, rfl⟩
  have x5 : (N : Int).tmod 2 = (r : Int) := by rw [← hr]; rfl
  have x6 : ((r : Int) == 0) = ((l : Int) == 0) := by
    have := odd_number (l := l) (p := p)
    rw [hN, hr] at this
    rw [Bool.eq_iff_iff, beq_iff_eq, beq_iff_eq]
    omega
  have o1 := same hsx (by omega)
  have o2 := same hsy (by omega)
  have b3 : (N : Int) ≤ 131071 := by omega
  clear hsA hsS hax hay hsx hsy hab ha hb hi hl hq hn hp hps hN hN1 bN hr
  go_enter Tryd.func4, Tryd.ntmps4
  go_wp2_with (first
    | (go_at_call 9; refine HD.out.mono ?_; rintro e' w1 ⟨rfl, hb⟩; have HT1 := Lib.hid (HT.out.below hb); have HB := Lib.hid hb; clear hb)
    | (go_at_call 22; refine (at_c (by first | exact HA.out | exact HN.out) _ HT1.out).mono ?_; rintro e' w' ⟨rfl, rfl⟩)
    | (go_at_call 12; refine (index_c (by first | exact HI.out | exact HS.out) _).mono ?_; rintro e' w' ⟨rfl, rfl⟩)
    | go_in)
  go_ret
  exact ⟨rfl, HB.out⟩
end Go.Proofs.YtgpjlofdeidacaaDoor.Sp
