/- Walks: SpotBelow. -/
import Derived.Test.YtgpjlofdeidacaaDoorSpHead
namespace Go.Proofs.YtgpjlofdeidacaaDoor.Sp
set_option linter.all false
open Go.RowKit Fl

theorem u8_of {n : Int} (h : (Lit.int .u8 n).wf = true) : ∃ k : Nat, n = k ∧ k < 256 := by
  simp [Lit.wf, IntKind.min, IntKind.max, IntKind.signed, IntKind.bits] at h
  exact ⟨n.toNat, by omega, by omega⟩
theorem u16_of {n : Int} (h : (Lit.int .u16 n).wf = true) : ∃ k : Nat, n = k ∧ k < 65536 := by
  simp [Lit.wf, IntKind.min, IntKind.max, IntKind.signed, IntKind.bits] at h
  exact ⟨n.toNat, by omega, by omega⟩
theorem u32_of {n : Int} (h : (Lit.int .u32 n).wf = true) : ∃ k : Nat, n = k ∧ k < 4294967296 := by
  simp [Lit.wf, IntKind.min, IntKind.max, IntKind.signed, IntKind.bits] at h
  exact ⟨n.toNat, by omega, by omega⟩
theorem is_at {l p : Nat} (hl : l ≤ 16) (hp : p < 2 ^ (16 - l)) : Is (fl l) (fl p) (some (l, p)) := ⟨nz_fl _, nz_fl _, hl, hp⟩

set_option maxHeartbeats 2000000 in
theorem spotBelow_walk (L P : Int) (w : World) (hT : Tab w) (hL : (Lit.int .u8 L).wf = true) (hP : (Lit.int .u16 P).wf = true) :
    Calls Tryd.prog 5 #[.int .u8 L, .int .u16 P] w fun e w' => e = .returned (.bool true) ∧ Below w.heap.size w w' := by
  obtain ⟨L, rfl, hL⟩ := u8_of hL
  obtain ⟨P, rfl, hP⟩ := u16_of hP
  have HD := Lib.hid (head_is w hT)
  clear hT
  obtain ⟨l0, hl0⟩ : ∃ l0, L % 16 = l0 := ⟨_, rfl⟩
  obtain ⟨l, hl⟩ : ∃ l, 1 + l0 = l := ⟨_, rfl⟩
  obtain ⟨q, hq⟩ : ∃ q, 16 - l = q := ⟨_, rfl⟩
  obtain ⟨n, hn⟩ : ∃ n, 2 ^ q = n := ⟨_, rfl⟩
  obtain ⟨p, hp⟩ : ∃ p, P % n = p := ⟨_, rfl⟩
  have b0 : l ≤ 16 := by omega
  have b1 : 1 ≤ l := by omega
  have bn : 1 ≤ n := by rw [← hn]; exact Nat.two_pow_pos q
  have bn2 : n ≤ 65536 := by rw [← hn]; exact pow_le q (by omega)
  have bp : p < n := by rw [← hp]; exact Nat.mod_lt _ (by omega)
  have x0 : (L : Int).tmod 16 = (l0 : Int) := by rw [← hl0]; rfl
  have x1 : 1 + (l0 : Int) = (l : Int) := by omega
  have x2 : 16 - (l : Int) = (q : Int) := by omega
  have x3 : (2 : Int) ^ q = (n : Int) := by rw [← hn]; simp
  have x4 : (P : Int).tmod (n : Int) = (p : Int) := by rw [← hp]; rfl
  have hps : p < 2 ^ (16 - l) := by rw [hq, hn]; exact bp
  have e2 : 2 ^ (16 - (l - 1)) = 2 * n := by rw [← hn, ← Nat.pow_succ']; congr 1; omega
  have hsS := is_at b0 hps
  have hsA : Is (fl (l - 1)) (fl (2 * p)) (some (l - 1, 2 * p)) := is_at (by omega) (by rw [e2]; omega)
  have hsB : Is (fl (l - 1)) (fl (2 * p + 1)) (some (l - 1, 2 * p + 1)) := is_at (by omega) (by rw [e2]; omega)
  obtain ⟨sx, hsx⟩ : ∃ x, fl l = x := ⟨_, rfl⟩
  obtain ⟨sy, hsy⟩ : ∃ x, fl p = x := ⟨_, rfl⟩
  obtain ⟨ax, hax⟩ : ∃ x, fl (l - 1) = x := ⟨_, rfl⟩
  obtain ⟨ay, hay⟩ : ∃ x, fl (2 * p) = x := ⟨_, rfl⟩
  obtain ⟨bY, hby⟩ : ∃ x, fl (2 * p + 1) = x := ⟨_, rfl⟩
  have n1 := nearest_is l
  have n2 := nearest_is p
  rw [hsx] at n1
  rw [hsy] at n2
  rw [hsx, hsy] at hsS
  rw [hax, hay] at hsA
  rw [hax, hby] at hsB
  obtain ⟨k, hk⟩ : ∃ k, 2 ^ (l - 1) = k := ⟨_, rfl⟩
  have bk : 1 ≤ k := by rw [← hk]; exact Nat.two_pow_pos _
  have hk2 : 2 ^ l = 2 * k := by rw [← hk, ← Nat.pow_succ']; congr 1; omega
  obtain ⟨nS, hnS⟩ : ∃ x, indexF (some (l, p)) = x := ⟨_, rfl⟩
  obtain ⟨nA, hnA⟩ : ∃ x, indexF (some (l - 1, 2 * p)) = x := ⟨_, rfl⟩
  obtain ⟨nB, hnB⟩ : ∃ x, indexF (some (l - 1, 2 * p + 1)) = x := ⟨_, rfl⟩
  have HA : Hid (DnC sx sy false ax ay) := Lib.hid ⟨_, hsS, by simp only [downF, if_neg (show ¬ l = 0 by omega)]; exact ⟨hax, by simpa using hay⟩⟩
  have HB0 : Hid (DnC sx sy true ax bY) := Lib.hid ⟨_, hsS, by simp only [downF, if_neg (show ¬ l = 0 by omega)]; exact ⟨hax, by simpa using hby⟩⟩
  have HOA : Hid (OtC ax ay ax bY) := Lib.hid ⟨_, hsA, by simp only [otherF, if_neg (show ¬ l - 1 = 16 by omega)]; exact ⟨hax, by rw [← hby]; congr 1; omega⟩⟩
  have HOB : Hid (OtC ax bY ax ay) := Lib.hid ⟨_, hsB, by simp only [otherF, if_neg (show ¬ l - 1 = 16 by omega)]; exact ⟨hax, by rw [← hay]; congr 1; omega⟩⟩
  have HUA : Hid (UpC ax ay sx sy) := Lib.hid ⟨_, hsA, by simp only [upF, if_neg (show ¬ l - 1 = 16 by omega)]; exact ⟨by rw [← hsx]; congr 1; omega, by rw [← hsy]; congr 1; omega⟩⟩
  have HUB : Hid (UpC ax bY sx sy) := Lib.hid ⟨_, hsB, by simp only [upF, if_neg (show ¬ l - 1 = 16 by omega)]; exact ⟨by rw [← hsx]; congr 1; omega, by rw [← hsy]; congr 1; omega⟩⟩
  have HIS : Hid (IdxC sx sy nS) := Lib.hid ⟨_, hsS, hnS⟩
  have HIA : Hid (IdxC ax ay nA) := Lib.hid ⟨_, hsA, hnA⟩
  have HIB : Hid (IdxC ax bY nB) := Lib.hid ⟨_, hsB, hnB⟩
  have HR : Hid (RtC ax ay 16 true) := Lib.hid ⟨_, hsA, by
    simp only [rightF]
    apply decide_eq_true
    refine ⟨by decide, by decide, by omega, ?_⟩
    rw [show ((16 : Int) - ((l - 1 : Nat) : Int)).toNat = 16 - (l - 1) by omega]
    have : ((2 * p : Nat) : Int) < ((2 ^ (16 - (l - 1)) : Nat) : Int) := by rw [e2]; omega
    simpa using this⟩
  have y1 : nA < nS := by
    rw [← hnA, ← hnS]
    simp only [indexF]
    have : (2 * (2 * p) + 1) * 2 ^ (l - 1) < (2 * p + 1) * 2 ^ l := by
      rw [hk, hk2, show (2 * p + 1) * (2 * k) = ((2 * p + 1) * 2) * k by rw [Nat.mul_assoc]]
      exact Nat.mul_lt_mul_of_pos_right (by omega) bk
    have : (((2 * (2 * p) + 1) * 2 ^ (l - 1) : Nat) : Int) < (((2 * p + 1) * 2 ^ l : Nat) : Int) := Int.ofNat_lt.2 this
    simp at this ⊢
    omega
  have y2 : nS < nB := by
    rw [← hnB, ← hnS]
    simp only [indexF]
    have : (2 * p + 1) * 2 ^ l < (2 * (2 * p + 1) + 1) * 2 ^ (l - 1) := by
      rw [hk, hk2, show (2 * p + 1) * (2 * k) = ((2 * p + 1) * 2) * k by rw [Nat.mul_assoc]]
      exact Nat.mul_lt_mul_of_pos_right (by omega) bk
    have : (((2 * p + 1) * 2 ^ l : Nat) : Int) < (((2 * (2 * p + 1) + 1) * 2 ^ (l - 1) : Nat) : Int) := Int.ofNat_lt.2 this
    simp at this ⊢
    omega
  have o1 := same hsx (by omega)
  have o2 := same hsy (by omega)
  have o3 := same hax (by omega)
  have o4 := same hay (by omega)
  have o5 := same hby (by omega)
  clear hsS hsA hsB hsx hsy hax hay hby hnS hnA hnB hk hk2 bk hps e2 hl0 hl hq hn hp
  go_enter Tryd.func5, Tryd.ntmps5
  go_wp2_with (first
    | (go_at_call 9; refine HD.out.mono ?_; rintro e' w1 ⟨rfl, hb⟩; have HB := Lib.hid hb; clear hb)
    | (go_at_call 18; refine (down_c (by first | exact HA.out | exact HB0.out) _).mono ?_; rintro e' w' ⟨rfl, rfl⟩)
    | (go_at_call 16; refine (other_c (by first | exact HOA.out | exact HOB.out) _).mono ?_; rintro e' w' ⟨rfl, rfl⟩)
    | (go_at_call 14; refine (up_c (by first | exact HUA.out | exact HUB.out) _).mono ?_; rintro e' w' ⟨rfl, rfl⟩)
    | (go_at_call 12; refine (index_c (by first | exact HIS.out | exact HIA.out | exact HIB.out) _).mono ?_; rintro e' w' ⟨rfl, rfl⟩)
    | (go_at_call 10; refine (right_c HR.out _).mono ?_; rintro e' w' ⟨rfl, rfl⟩)
    | go_in)
  go_ret
  exact ⟨rfl, HB.out⟩
end Go.Proofs.YtgpjlofdeidacaaDoor.Sp
