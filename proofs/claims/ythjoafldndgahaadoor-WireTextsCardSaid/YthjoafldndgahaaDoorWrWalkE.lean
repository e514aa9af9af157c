/- Walks: Text. -/
import Derived.Test.YthjoafldndgahaaDoorWrWalkD
namespace Go.Proofs.YthjoafldndgahaaDoor.Wr
set_option linter.all false
open Go.RowKit

/-- a text told, with an error -/
def ToldE (r : List Nat × Nat) (w : World) (e : Ending) (w' : World) : Prop := ∃ A n c, e = .returned (.tuple #[.slice A n c, .int .i64 r.2]) ∧ Txt (New w.heap.size w') w' A n c r.1 ∧ Below w.heap.size w w'
set_option maxHeartbeats 2000000 in
set_option maxRecDepth 100000 in
theorem text_any (A : Option Addr) (s : List Nat) (n c : Nat) (w : World) (hT : Tables w) (hA : Txt Any w A n c s) (r : List Nat × Nat) (hr : Hid (putT s = r)) :
    Calls Tryd.prog 16 #[.slice A n c] w (ToldE r w) := by
  have hl := hA.len
  have h1 := hT.lt
  have HT := Lib.hid hT; have HA := Lib.hid hA
  by_cases h : 1048576 < n
  · have HR : Hid (([], 2) = r) := Lib.hid (by rw [← hr.out]; unfold putT; rw [hl, if_pos h])
    have y1 : (1048576 : Int) < (n : Int) := by omega
    go_enter Tryd.func16, Tryd.ntmps16
    go_wp2
    go_ret2
    rw [← HR.out]
    exact ⟨_, _, _, rfl, Txt.nil _ _, Below.refl _ _⟩
  · have HR : Hid ((lenB n ++ s, 0) = r) := Lib.hid (by rw [← hr.out]; unfold putT txB; rw [hl, if_neg h])
    have y1 : ¬ (1048576 : Int) < (n : Int) := by omega
    have HL := Lib.hid (lenB_len n)
    have hp := szB_pos n
    go_enter Tryd.func16, Tryd.ntmps16
    go_wp2_with fail
    refine (lengthBytes_any n w hT (by omega) _ (Lib.hid rfl)).mono ?_
    rintro e' w1 ⟨A1, n1, c1, rfl, hX, hB⟩
    obtain ⟨hn1, hn2⟩ : 0 < n1 ∧ n1 ≤ 4 := by have := hX.len; rw [lenB_len] at this; omega
    have HX := Lib.hid hX; have HB := Lib.hid hB
    have hs1 := hB.size
    have HB2 := Lib.hid (hB.alloc hs1 (.cells #[.slice A1 n1 c1, .slice A n c] 22))
    have HC := Lib.hid ((Below.refl w1.heap.size w1).alloc (Nat.le_refl _) (.cells #[.slice A1 n1 c1, .slice A n c] 22))
    have hsz : w1.heap.size < (w1.alloc (.cells #[.slice A1 n1 c1, .slice A n c] 22)).heap.size := by simp
    have HD := Lib.hid (heap_alloc_last w1 (.cells #[.slice A1 n1 c1, .slice A n c] 22))
    clear hX hB
    go_wp2_with fail
    generalize w1.alloc (.cells #[.slice A1 n1 c1, .slice A n c] 22) = w2 at *
    refine (concat_any A1 A (lenB n) s n1 c1 n c w1.heap.size 2 w2 (HX.out.below HC.out).any (HA.out.below HB2.out) (by omega) (by omega) (by omega) ?c0 ?c1 hsz).mono ?_
    case c0 => rw [cell_of_row w2 _ 0 _ 22 (0, 0) HD.out]; rfl
    case c1 => rw [cell_of_row w2 _ 1 _ 22 (0, 0) HD.out]; rfl
    rintro e' w3 ⟨A3, n3, c3, rfl, hX3, hB3⟩
    have HX3 := Lib.hid (hX3.mono (New.mono HB2.out.size)); have HB3 := Lib.hid (HB2.out.trans (hB3.mono HB2.out.size))
    clear hX3 hB3
    go_wp2
    go_ret2
    rw [← HR.out]
    exact ⟨_, _, _, rfl, HX3.out, HB3.out⟩
end Go.Proofs.YthjoafldndgahaaDoor.Wr
