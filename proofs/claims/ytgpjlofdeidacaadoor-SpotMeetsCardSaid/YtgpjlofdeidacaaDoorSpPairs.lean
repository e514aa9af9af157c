/- Walks: SpotPairs. -/
import Derived.Test.YtgpjlofdeidacaaDoorSpNumbers
namespace Go.Proofs.YtgpjlofdeidacaaDoor.Sp
set_option linter.all false
open Go.RowKit Fl

theorem unlike {x a y b : Nat} (hx : fl a = x) (hy : fl b = y) (ha : a < 2 ^ 52) (hb : b < 2 ^ 52) (h : a ≠ b) : (FloatKind.f64.format.order x y == some .eq) = false := by
  rw [alike hx hy ha hb]
  rcases Nat.lt_or_gt_of_ne h with h | h
  · rw [Nat.compare_eq_lt.2 h]; rfl
  · rw [Nat.compare_eq_gt.2 h]; rfl

set_option maxHeartbeats 2000000 in
theorem spotPairs_walk (L P I : Int) (w : World) (hT : Tab w) (hL : (Lit.int .u8 L).wf = true) (hP : (Lit.int .u16 P).wf = true) (hI : (Lit.int .u16 I).wf = true) :
    Calls Tryd.prog 7 #[.int .u8 L, .int .u16 P, .int .u16 I] w fun e w' => e = .returned (.bool true) ∧ Below w.heap.size w w' := by
  obtain ⟨L, rfl, hL⟩ := u8_of hL
  obtain ⟨P, rfl, hP⟩ := u16_of hP
  obtain ⟨i, rfl, hi⟩ := u16_of hI
  have HD := Lib.hid (head_is w hT)
  clear hT
  obtain ⟨l, hl⟩ : ∃ l, L % 16 = l := ⟨_, rfl⟩
  obtain ⟨q, hq⟩ : ∃ q, 16 - l = q := ⟨_, rfl⟩
  obtain ⟨n, hn⟩ : ∃ n, 2 ^ q = n := ⟨_, rfl⟩
  obtain ⟨p, hp⟩ : ∃ p, P % n = p := ⟨_, rfl⟩
  have b0 : l ≤ 15 := by omega
  have bn : 1 ≤ n := by rw [← hn]; exact Nat.two_pow_pos q
  have bn2 : n ≤ 65536 := by rw [← hn]; exact pow_le q (by omega)
  have bp : p < n := by rw [← hp]; exact Nat.mod_lt _ (by omega)
  have x1 : (L : Int).tmod 16 = (l : Int) := by rw [← hl]; rfl
  have x2 : 16 - (l : Int) = (q : Int) := by omega
  have x3 : (2 : Int) ^ q = (n : Int) := by rw [← hn]; simp
  have x4 : (P : Int).tmod (n : Int) = (p : Int) := by rw [← hp]; rfl
  obtain ⟨m, hm⟩ : ∃ m, n = 2 * m := by
    refine ⟨2 ^ (q - 1), ?_⟩
    rw [← hn, ← Nat.pow_succ']; congr 1; omega
  obtain ⟨o, ho⟩ : ∃ o, p + 1 - 2 * (p % 2) = o := ⟨_, rfl⟩
  have hps : p < 2 ^ (16 - l) := by rw [hq, hn]; exact bp
  have hos : o < 2 ^ (16 - l) := by rw [hq, hn]; omega
  have hsS := is_at (show l ≤ 16 by omega) hps
  have hsO := is_at (show l ≤ 16 by omega) hos
  obtain ⟨sx, hsx⟩ : ∃ x, fl l = x := ⟨_, rfl⟩
  obtain ⟨sy, hsy⟩ : ∃ x, fl p = x := ⟨_, rfl⟩
  obtain ⟨oy, hoy⟩ : ∃ x, fl o = x := ⟨_, rfl⟩
  obtain ⟨ux, hux⟩ : ∃ x, fl (l + 1) = x := ⟨_, rfl⟩
  obtain ⟨uy, huy⟩ : ∃ x, fl (p / 2) = x := ⟨_, rfl⟩
  have n1 := nearest_is l
  have n2 := nearest_is p
  rw [hsx] at n1
  rw [hsy] at n2
  rw [hsx, hsy] at hsS
  rw [hsx, hoy] at hsO
  have HOS : Hid (OtC sx sy sx oy) := Lib.hid ⟨_, hsS, by simp only [otherF, if_neg (show ¬ l = 16 by omega), ho]; exact ⟨hsx, hoy⟩⟩
  have HOO : Hid (OtC sx oy sx sy) := Lib.hid ⟨_, hsO, by simp only [otherF, if_neg (show ¬ l = 16 by omega)]; exact ⟨hsx, by rw [← hsy]; congr 1; omega⟩⟩
  have HUS : Hid (UpC sx sy ux uy) := Lib.hid ⟨_, hsS, by simp only [upF, if_neg (show ¬ l = 16 by omega)]; exact ⟨hux, huy⟩⟩
  have HUO : Hid (UpC sx oy ux uy) := Lib.hid ⟨_, hsO, by simp only [upF, if_neg (show ¬ l = 16 by omega)]; exact ⟨hux, by rw [← huy]; congr 1; omega⟩⟩
  have hadd := Fl.add l 1 (by omega)
  rw [hsx, fl1, hux] at hadd
  have f1 := fadd hadd
  -- the leaf
  obtain ⟨j, hj⟩ : ∃ j, i + 1 - 2 * (i % 2) = j := ⟨_, rfl⟩
  obtain ⟨z, hz⟩ : ∃ x, fl 0 = x := ⟨_, rfl⟩
  obtain ⟨iy, hiy⟩ : ∃ x, fl i = x := ⟨_, rfl⟩
  obtain ⟨jy, hjy⟩ : ∃ x, fl j = x := ⟨_, rfl⟩
  have hsI : Is z iy (some (0, i)) := by rw [← hz, ← hiy]; exact is_at (by decide) (by show i < 2 ^ 16; omega)
  have hsJ : Is z jy (some (0, j)) := by rw [← hz, ← hjy]; exact is_at (by decide) (by show j < 2 ^ 16; omega)
  have HL : Hid (LfC (i : Int) z iy) := Lib.hid ⟨by rw [leafF, if_pos ⟨by omega, by omega⟩]; exact ⟨hz, by simpa using hiy⟩⟩
  have HIL : Hid (IdxC z iy (2 * (i : Int))) := Lib.hid ⟨_, hsI, by simp [indexF]⟩
  have HVI : Hid (OvC z iy (i : Int) true) := Lib.hid ⟨_, hsI, by simp only [overF]; exact decide_eq_true ⟨by omega, by omega, by simp⟩⟩
  have HOI : Hid (OtC z iy z jy) := Lib.hid ⟨_, hsI, by simp only [otherF, if_neg (show ¬ 0 = 16 by omega), hj]; exact ⟨hz, hjy⟩⟩
  have HVJ : Hid (OvC z jy (i : Int) false) := Lib.hid ⟨_, hsJ, by
    simp only [overF]
    refine decide_eq_false fun e => ?_
    have e2 := e.2.2
    simp at e2
    omega⟩
  have o1 := same hsx (by omega)
  have o2 := same hsy (by omega)
  have o3 := unlike hoy hsy (by omega) (by omega) (by omega)
  have o4 := same hux (by omega)
  have o5 := same huy (by omega)
  clear hsS hsO hsI hsJ hsx hsy hoy hux huy hadd hz hiy hjy hj hl hq hn hp hps hos ho hm
  go_enter Tryd.func7, Tryd.ntmps7
  go_wp2_with (first
    | (go_at_call 9; refine HD.out.mono ?_; rintro e' w1 ⟨rfl, hb⟩; have HB := Lib.hid hb; clear hb)
    | (go_at_call 16; refine (other_c (by first | exact HOS.out | exact HOO.out | exact HOI.out) _).mono ?_; rintro e' w' ⟨rfl, rfl⟩)
    | (go_at_call 14; refine (up_c (by first | exact HUS.out | exact HUO.out) _).mono ?_; rintro e' w' ⟨rfl, rfl⟩)
    | (go_at_call 24; refine (leaf_c HL.out _).mono ?_; rintro e' w' ⟨rfl, rfl⟩)
    | (go_at_call 12; refine (index_c HIL.out _).mono ?_; rintro e' w' ⟨rfl, rfl⟩)
    | (go_at_call 20; refine (over_c (by first | exact HVI.out | exact HVJ.out) _).mono ?_; rintro e' w' ⟨rfl, rfl⟩)
    | go_in)
  go_ret
  exact ⟨rfl, HB.out⟩
end Go.Proofs.YtgpjlofdeidacaaDoor.Sp
