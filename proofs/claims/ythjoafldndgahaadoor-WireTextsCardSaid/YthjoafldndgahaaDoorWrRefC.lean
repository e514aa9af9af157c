/- The document's own: length, Text. -/
import Derived.Test.YthjoafldndgahaaDoorWrWalkI
namespace Go.Proofs.YthjoafldndgahaaDoor.Wr
set_option linter.all false
open Go.RowKit

/-- bytes in a row of the call's own -/
def Laid (l : List Nat) (w : World) (e : Ending) (w' : World) : Prop :=
  ∃ h cap, e = .returned (.slice (some ⟨h, 0, none⟩) l.length cap) ∧ w'.ownsRow w.heap.size 5 1 (.slice (some ⟨h, 0, none⟩) l.length cap) l.length (bcells l) ∧ Below w.heap.size w w'
theorem laid_built (w : World) (l : List Nat) (cs : Array Value) (n : Nat) (hl : l.length = n) (hc : cs = (bcells l).toArray) (hm : n ≤ 1000) :
    (w.alloc (.cells cs 5)).ownsRow w.heap.size 5 1 (.slice (some ⟨w.heap.size, 0, none⟩) n n) n (bcells l) := by
  subst hc hl
  exact ⟨by rw [bcells_len, Nat.mul_one], .inr ⟨w.heap.size, l.length, _, rfl, Nat.le_refl _, heap_alloc_last w _, Nat.le_refl _, by unfold maxLen; omega, by simp [bcells_len], by simp [bcells_len, List.take_of_length_le]⟩⟩
theorem be1 (n : Nat) : be 1 n = [n % 256] := by simp [be]
theorem be2 (n : Nat) : be 2 n = [n / 256 % 256, n % 256] := by simp [be]
theorem be4 (n : Nat) : be 4 n = [n / 16777216 % 256, n / 65536 % 256, n / 256 % 256, n % 256] := by simp [be]
theorem cells1 {a : Int} {x : Nat} (h : a = x) : (#[.int .u8 a] : Array Value) = (bcells [x]).toArray := by subst h; rfl
theorem cells2 {a b : Int} {x y : Nat} (h : a = x) (h2 : b = y) : (#[.int .u8 a, .int .u8 b] : Array Value) = (bcells [x, y]).toArray := by subst h h2; rfl
theorem cells4 {a b c d : Int} {x y z u : Nat} (h : a = x) (h2 : b = y) (h3 : c = z) (h4 : d = u) : (#[.int .u8 a, .int .u8 b, .int .u8 c, .int .u8 d] : Array Value) = (bcells [x, y, z, u]).toArray := by subst h h2 h3 h4; rfl

set_option maxHeartbeats 2000000 in
set_option maxRecDepth 100000 in
/-- of any number below 2^30 -/
theorem rlength_any (n : Nat) (w : World) (hn : n < 1073741824) (r : List Nat) (hr : Hid (lenB n = r)) :
    Calls Tryd.prog 30 #[.int .i64 n] w (Laid r w) := by
  by_cases h1 : n < 64
  · obtain rfl : r = [n] := by rw [← hr.out]; unfold lenB szB mark; rw [if_pos h1]; simp [be1]; omega
    have y1 : (n : Int) < 64 := by omega
    have HN := Lib.hid h1; clear h1 hn hr
    go_enter Tryd.func30, Tryd.ntmps30
    go_wp2
    go_ret
    exact ⟨_, _, rfl, laid_built w [n] _ 1 rfl (cells1 (by have := HN.out; omega)) (by omega), (Below.refl _ _).alloc (Nat.le_refl _) _⟩
  by_cases h2 : n < 16384
  · obtain ⟨x, hx, hx'⟩ : ∃ x : Nat, n / 256 + 64 = x ∧ x < 128 := ⟨_, rfl, by omega⟩
    obtain ⟨y, hy, hy'⟩ : ∃ y : Nat, n % 256 = y ∧ y < 256 := ⟨_, rfl, by omega⟩
    obtain rfl : r = [x, y] := by
      rw [← hr.out]; unfold lenB szB mark; rw [if_neg h1, if_pos h2]
      show be 2 (n + 16384) = _
      rw [be2]
      congr 1
      · omega
      · congr 1; omega
    have y1 : ¬ (n : Int) < 64 := by omega
    have y2 : (n : Int) < 16384 := by omega
    have HXX := Lib.hid hx; have HYY := Lib.hid hy; have H1 := Lib.hid h1; have H2 := Lib.hid h2
    clear h1 h2 hn hr hx hy hx' hy'
    go_enter Tryd.func30, Tryd.ntmps30
    go_wp2
    go_ret
    exact ⟨_, _, rfl, laid_built w [x, y] _ 2 rfl (cells2 (by have := HXX.out; have := H2.out; omega) (by have := HYY.out; omega)) (by omega), (Below.refl _ _).alloc (Nat.le_refl _) _⟩
  · obtain ⟨x, hx⟩ : ∃ x : Nat, n / 16777216 + 128 = x := ⟨_, rfl⟩
    obtain ⟨y, hy⟩ : ∃ y : Nat, n / 65536 % 256 = y := ⟨_, rfl⟩
    obtain ⟨z, hz⟩ : ∃ z : Nat, n / 256 % 256 = z := ⟨_, rfl⟩
    obtain ⟨u, hu⟩ : ∃ u : Nat, n % 256 = u := ⟨_, rfl⟩
    obtain rfl : r = [x, y, z, u] := by
      rw [← hr.out]; unfold lenB szB mark; rw [if_neg h1, if_neg h2]
      show be 4 (n + 2147483648) = _
      rw [be4]
      congr 1
      · omega
      · congr 1
        · omega
        · congr 1
          · omega
          · congr 1; omega
    have y1 : ¬ (n : Int) < 64 := by omega
    have y2 : ¬ (n : Int) < 16384 := by omega
    have HXX := Lib.hid hx; have HYY := Lib.hid hy; have HZZ := Lib.hid hz; have HUU := Lib.hid hu; have HNN := Lib.hid hn
    clear h1 h2 hn hr hx hy hz hu
    go_enter Tryd.func30, Tryd.ntmps30
    go_wp2
    go_ret
    exact ⟨_, _, rfl, laid_built w [x, y, z, u] _ 4 rfl (cells4 (by have := HXX.out; have := HNN.out; omega) (by have := HYY.out; omega) (by have := HZZ.out; omega) (by have := HUU.out; omega)) (by omega), (Below.refl _ _).alloc (Nat.le_refl _) _⟩

set_option maxHeartbeats 2000000 in
set_option maxRecDepth 100000 in
theorem rtext_any (A : Option Addr) (s : List Nat) (n c : Nat) (w : World) (hA : Txt Any w A n c s) (r : List Nat × Nat) (hr : Hid (putT s = r)) :
    Calls Tryd.prog 17 #[.slice A n c] w (ToldE r w) := by
  have hl := hA.len
  have HA := Lib.hid hA
  by_cases h : 1048576 < n
  · have HR : Hid (([], 2) = r) := Lib.hid (by rw [← hr.out]; unfold putT; rw [hl, if_pos h])
    have y1 : (1048576 : Int) < (n : Int) := by omega
    go_enter Tryd.func17, Tryd.ntmps17
    go_wp2
    go_ret2
    rw [← HR.out]
    exact ⟨_, _, _, rfl, Txt.nil _ _, Below.refl _ _⟩
  · have HR : Hid ((lenB n ++ s, 0) = r) := Lib.hid (by rw [← hr.out]; unfold putT txB; rw [hl, if_neg h])
    have y1 : ¬ (1048576 : Int) < (n : Int) := by omega
    obtain ⟨k, hk, hk4⟩ : ∃ k, (lenB n).length = k ∧ k ≤ 4 := ⟨_, rfl, by rw [lenB_len]; exact (szB_pos n).2⟩
    have HLT := Lib.hid (lenB_lt n)
    obtain ⟨l, hl2⟩ : ∃ l, lenB n = l := ⟨_, rfl⟩
    have HLN := Lib.hid hl2
    rw [hl2] at hk HLT HR
    clear hl2
    go_enter Tryd.func17, Tryd.ntmps17
    go_wp2_with fail
    refine (rlength_any n w (by omega) l HLN).mono ?_
    rintro e' w1 ⟨h1, cap1, rfl, hO, hB⟩
    rw [hk] at hO ⊢
    have HO := Lib.hid hO; have HB := Lib.hid hB; clear hO hB hk
    have HA1 := Lib.hid (HA.out.below HB.out)
    go_wp2_with (at_builtin; refine wpList_append_txt rfl (.tmp 9) (.tmp 10) rfl w.heap.size k n c _ l s A Any rfl rfl HO.out HA1.out (by omega) HB.out.size ?_)
    intro v' W2 hown hgrow hat
    obtain ⟨C', c', rfl⟩ := own_slice_of hown
    have HB3 := Lib.hid (below_own HB.out HO.out (Nat.le_refl _) hgrow)
    obtain ⟨A', c'', e, hX⟩ := Txt.of_own hown (gt_append_lt HLT.out HA.out.lt)
    injection e with e1 _ e3
    subst e1 e3
    have HX := Lib.hid hX; clear hX hown hgrow hat
    go_wp2
    go_ret2
    rw [← HR.out]
    exact ⟨_, _, _, rfl, HX.out, HB3.out⟩
end Go.Proofs.YthjoafldndgahaaDoor.Wr
