/- Walks: isPlace, isSize, Number. -/
import Derived.Test.YthjoafldndgahaaDoorWrMem
namespace Go.Proofs.YthjoafldndgahaaDoor.Wr
set_option linter.all false
open Go.RowKit

def okP (n : Nat) (x : Int) : Bool := decide (0 ≤ x) && decide (x ≤ n)
def okS (x : Int) : Bool := decide (x = 1) || decide (x = 2) || decide (x = 4) || decide (x = 8)
theorem okS_true {x : Int} (h : okS x = true) : x = 1 ∨ x = 2 ∨ x = 4 ∨ x = 8 := by
  simp [okS] at h; omega
theorem isPlace_any (A : Option Addr) (n c : Nat) (x : Int) (w : World) : Calls Tryd.prog 26 #[.slice A n c, .int .i64 x] w fun e w' => e = .returned (.bool (okP n x)) ∧ w = w' := by
  unfold okP
  by_cases h1 : 0 ≤ x
  · by_cases h2 : x ≤ (n : Int)
    · rw [decide_eq_true h1, decide_eq_true h2]
      go_enter Tryd.func26, Tryd.ntmps26
      go_wp2
      go_ret
      exact ⟨rfl, rfl⟩
    · rw [decide_eq_true h1, decide_eq_false h2]
      go_enter Tryd.func26, Tryd.ntmps26
      go_wp2
      go_ret
      exact ⟨rfl, rfl⟩
  · rw [decide_eq_false h1]
    go_enter Tryd.func26, Tryd.ntmps26
    go_wp2
    go_ret
    exact ⟨rfl, rfl⟩
theorem isSize_any (x : Int) (w : World) : Calls Tryd.prog 27 #[.int .i64 x] w fun e w' => e = .returned (.bool (okS x)) ∧ w = w' := by
  by_cases h1 : x = 1
  · subst h1
    go_enter Tryd.func27, Tryd.ntmps27
    go_wp2
    go_ret
    exact ⟨rfl, rfl⟩
  by_cases h2 : x = 2
  · subst h2
    go_enter Tryd.func27, Tryd.ntmps27
    go_wp2
    go_ret
    exact ⟨rfl, rfl⟩
  by_cases h4 : x = 4
  · subst h4
    go_enter Tryd.func27, Tryd.ntmps27
    go_wp2
    go_ret
    exact ⟨rfl, rfl⟩
  by_cases h8 : x = 8
  · subst h8
    go_enter Tryd.func27, Tryd.ntmps27
    go_wp2
    go_ret
    exact ⟨rfl, rfl⟩
  have : okS x = false := by simp [okS, h1, h2, h4, h8]
  rw [this]
  go_enter Tryd.func27, Tryd.ntmps27
  go_wp2
  go_ret
  exact ⟨rfl, rfl⟩

theorem pow8 (k : Nat) : ((2 : Int) ^ (8 * k)) = ((256 ^ k : Nat) : Int) := by rw [Int.pow_mul, Int.natCast_pow]; rfl
theorem shr_zero {m k : Nat} (h : m < 256 ^ k) : ((m : Int) / 2 ^ (8 * k) != 0) = false := by
  rw [pow8, ← Int.natCast_ediv, Nat.div_eq_of_lt h]; rfl
theorem shr_not {m k : Nat} (h : ¬ m < 256 ^ k) : ((m : Int) / 2 ^ (8 * k) != 0) = true := by
  have h1 : 0 < m / 256 ^ k := Nat.div_pos (by omega) (Nat.pow_pos (by omega))
  rw [pow8, ← Int.natCast_ediv]
  generalize m / 256 ^ k = q at *
  rw [bne_iff_ne]; omega
/-- a number's bytes, or none -/
def numB (n x : Int) : List Nat := if okS x = true ∧ 0 ≤ n ∧ n.toNat < 256 ^ x.toNat then be x.toNat n.toNat else []
theorem numB_lt (n x : Int) : ∀ j, gt (numB n x) j < 256 := by
  unfold numB; split
  · exact be_lt _ _
  · exact fun j => by simp [gt]
def Told (bs : List Nat) (w : World) (e : Ending) (w' : World) : Prop := ∃ A n c, e = .returned (.slice A n c) ∧ Txt (New w.heap.size w') w' A n c bs ∧ Below w.heap.size w w'

def beRow (k n i : Nat) : Nat → Value := fun j => .int .u8 (((if j < i then gt (be k n) j else 0 : Nat)) : Int)
theorem beRow_succ {w : World} {h k n i : Nat} (hR : w.rowIs h 5 k (beRow k n i)) (hi : i < k) {z : Int} (hz : z = ((n / 256 ^ (k - 1 - i) % 256 : Nat) : Int)) :
    (w.setCell ⟨h, i, none⟩ (.int .u8 z)).rowIs h 5 k (beRow k n (i + 1)) := by
  subst hz
  refine (hR.set i _).congr fun j hj => ?_
  by_cases e : j = i
  · subst e; rw [if_pos rfl]; unfold beRow; rw [if_pos (by omega), gt_be _ _ _ hi]
  · rw [if_neg e]; unfold beRow
    by_cases h1 : j < i
    · rw [if_pos h1, if_pos (by omega)]
    · rw [if_neg h1, if_neg (by omega)]

set_option maxHeartbeats 1000000 in
set_option maxRecDepth 100000 in
theorem number_ok (n k : Nat) (w : World) (hk : k = 1 ∨ k = 2 ∨ k = 4 ∨ k = 8) (hn : n < 256 ^ k) (hn' : n < 9223372036854775808) :
    Calls Tryd.prog 14 #[.int .i64 n, .int .i64 k] w (Told (be k n) w) := by
  have hk8 : 1 ≤ k ∧ k ≤ 8 := by omega
  have hoS : okS (k : Int) = true := by rcases hk with rfl | rfl | rfl | rfl <;> rfl
  have hmk := fun W => run_make_row' (P := Tryd.prog) 22 5 (.int .u8 0) 1 Tryd.underlying22 (by kernel_rfl) rfl .i64 .i64 k (by omega) (by omega) W
  have y0 : ¬ (n : Int) < 0 := by omega
  have y1 := shr_zero hn
  have HR0 : Hid ((w.alloc (.cells (madeCells #[Value.int IntKind.u8 0] k) 5)).rowIs w.heap.size 5 k (beRow k n 0)) := Lib.hid ((World.rowIs_made w (.int .u8 0) k 5).congr fun j hj => by simp [beRow])
  have HB0 := Lib.hid ((Below.refl w.heap.size w).alloc (Nat.le_refl _) (.cells (madeCells #[Value.int IntKind.u8 0] k) 5))
  have HN := Lib.hid hn; clear hn
  go_enter Tryd.func14, Tryd.ntmps14
  go_wp2_with fail
  refine (isSize_any k w).mono ?_
  rintro e' w1 ⟨rfl, rfl⟩
  rw [hoS]
  go_wp2
  generalize w.alloc (.cells (madeCells #[Value.int IntKind.u8 0] k) 5) = W0 at *
  go_loopw [25] (fun i W => ∃ j : Nat, j ≤ k ∧ i = .int .i64 j ∧ Hid (W.rowIs w.heap.size 5 k (beRow k n j)) ∧ Hid (Below w.heap.size w W)) (fun i _ => k - (intOf i).toNat)
  case atStart => exact ⟨0, by omega, rfl, HR0, HB0⟩
  case round =>
    obtain ⟨j, hj, rfl, HR1, HB1⟩ := hrel
    by_cases hjk : j < k
    · have c0 := HR1.out.cell (i := j) hjk
      have f0 := HR1.out.frozen j
      have yj : (j : Int) < (k : Int) := by omega
      go_wp2
      go_roundw
      case rel => exact ⟨j + 1, by omega, by go_num, Lib.hid (beRow_succ HR1.out hjk (by rw [Int.natCast_emod, Int.natCast_ediv, Int.natCast_pow, show ((256 : Nat) : Int) = 2 ^ 8 from rfl, ← Int.pow_mul]; simp)), Lib.hid (HB1.out.setCell (Nat.le_refl _) _)⟩
      case measure => simp [intOf]; omega
    · obtain rfl : j = k := by omega
      go_wp2
      go_ret
      exact ⟨_, _, _, rfl, Txt.of_row (bs := be j n) (HR1.out.congr fun i hi => by unfold beRow byteRow wordRow; rw [if_pos hi]) (be_len _ _) (be_lt _ _) (Nat.le_refl _) (by omega), HB1.out⟩

theorem Told.none (w : World) : Told [] w (.returned (.slice .none 0 0)) w := ⟨_, _, _, rfl, Txt.nil _ _, Below.refl _ _⟩
set_option maxHeartbeats 1000000 in
set_option maxRecDepth 100000 in
theorem number_any (n x : Int) (w : World) (hn : n < 9223372036854775808) :
    Calls Tryd.prog 14 #[.int .i64 n, .int .i64 x] w (Told (numB n x) w) := by
  by_cases h1 : okS x = true
  · obtain ⟨k, rfl⟩ : ∃ k : Nat, x = k := ⟨x.toNat, by have := okS_true h1; omega⟩
    by_cases h2 : 0 ≤ n
    · obtain ⟨m, rfl⟩ : ∃ m : Nat, n = m := ⟨n.toNat, by omega⟩
      by_cases h3 : m < 256 ^ k
      · unfold numB
        rw [if_pos ⟨h1, h2, by simpa using h3⟩, Int.toNat_natCast, Int.toNat_natCast]
        exact number_ok m k w (by have := okS_true h1; omega) h3 (by omega)
      · have hne : numB m k = [] := by unfold numB; rw [if_neg]; rintro ⟨-, -, h⟩; exact h3 (by simpa using h)
        rw [hne]
        have hk8 : 1 ≤ k ∧ k ≤ 8 := by have := okS_true h1; omega
        have y0 : ¬ (m : Int) < 0 := by omega
        have y1 := shr_not h3
        clear h3
        go_enter Tryd.func14, Tryd.ntmps14
        go_wp2_with fail
        refine (isSize_any k w).mono ?_
        rintro e' w1 ⟨rfl, rfl⟩
        rw [h1]
        go_wp2
        go_ret
        exact Told.none _
    · have hne : numB n k = [] := by unfold numB; rw [if_neg]; rintro ⟨-, h, -⟩; exact h2 h
      rw [hne]
      go_enter Tryd.func14, Tryd.ntmps14
      go_wp2_with fail
      refine (isSize_any k w).mono ?_
      rintro e' w1 ⟨rfl, rfl⟩
      rw [h1]
      go_wp2
      go_ret
      exact Told.none _
  · have h1' : okS x = false := by cases h : okS x <;> simp_all
    have hne : numB n x = [] := by unfold numB; rw [if_neg]; rintro ⟨h, -, -⟩; exact h1 h
    rw [hne]
    go_enter Tryd.func14, Tryd.ntmps14
    go_wp2_with fail
    refine (isSize_any x w).mono ?_
    rintro e' w1 ⟨rfl, rfl⟩
    rw [h1']
    go_wp2
    go_ret
    exact Told.none _
end Go.Proofs.YthjoafldndgahaaDoor.Wr
