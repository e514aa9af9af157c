/- Walks: GetNumber. -/
import Derived.Test.YthjoafldndgahaaDoorWrWalkA
namespace Go.Proofs.YthjoafldndgahaaDoor.Wr
set_option linter.all false
open Go.RowKit

/-- what is told of a number that stands at a place -/
def getN (b : List Nat) (x s : Int) : Nat × Nat × Nat :=
  if okP b.length x = false ∨ okS s = false then (0, 0, 1) else if b.length < x.toNat + s.toNat then (0, 0, 111)
  else if 9223372036854775807 < num b x.toNat s.toNat then (0, 0, 112) else (num b x.toNat s.toNat, x.toNat + s.toNat, 0)
def Say3 (r : Nat × Nat × Nat) (w : World) (e : Ending) (w' : World) : Prop := e = .returned (.tuple #[.int .i64 r.1, .int .i64 r.2.1, .int .i64 r.2.2]) ∧ w = w'
theorem or_join (m v : Nat) (hv : v < 256) : m * 256 ||| v = m * 256 + v := nat_join 8 (m * 256) v (by simp) hv
theorem shl_or {m v j N : Nat} (hm : m < 256 ^ j) (hj : j < 8) (hv : v < 256) (h : N = m * 256 + v) : bits .or .u64 (IntKind.u64.wrap ((m : Int) * 256)) (IntKind.u64.wrap (v : Int)) = (N : Int) := by
  subst h
  have hl : 256 ^ j ≤ 256 ^ 7 := Nat.pow_le_pow_right (by omega) (by omega)
  have hm' : m < 72057594037927936 := Nat.lt_of_lt_of_le hm hl
  have e1 : IntKind.u64.wrap ((m : Int) * 256) = ((m * 256 : Nat) : Int) := by rw [IntKind.wrap_u64]; omega
  have e2 : IntKind.u64.wrap (v : Int) = (v : Int) := by rw [IntKind.wrap_u64]; omega
  rw [e1, e2, u64_or_nat _ _ (by omega) (by omega), or_join _ _ hv]

def fin (N to : Nat) : Nat × Nat × Nat := if 9223372036854775807 < N then (0, 0, 112) else (N, to, 0)
set_option maxHeartbeats 1000000 in
set_option maxRecDepth 100000 in
theorem getNumber_to (ad : Addr) (b : List Nat) (n c p k : Nat) (w : World) (Post : Ending → World → Prop) (hT : Txt Any w (some ad) n c b) (hk : k = 1 ∨ k = 2 ∨ k = 4 ∨ k = 8) (hp : p + k ≤ n) (hn : n ≤ 8388608)
    (hPost : Hid (∀ e w', Say3 (fin (num b p k) (p + k)) w e w' → Post e w')) :
    Calls Tryd.prog 12 #[.slice (some ad) n c, .int .i64 p, .int .i64 k] w Post := by
  have hk8 : 1 ≤ k ∧ k ≤ 8 := by omega
  have hoS : okS (k : Int) = true := by rcases hk with rfl | rfl | rfl | rfl <;> rfl
  have hoP : okP n (p : Int) = true := by simp [okP]; omega
  have hnc : n ≤ c := hT.2.2.1
  have hsl := fun W => run_cut ad n c p (p + k) (by omega) hp (by omega) hnc W
  rw [show p + k - p = k by omega] at hsl
  have HT := Lib.hid hT; clear hT
  have y1 : ¬ (n : Int) - (p : Int) < (k : Int) := by omega
  obtain ⟨q, hq, hq'⟩ : ∃ q : Nat, p + k = q ∧ (p : Int) + (k : Int) = (q : Int) := ⟨_, rfl, by omega⟩
  rw [hq] at hsl
  go_enter Tryd.func12, Tryd.ntmps12
  go_wp2_with fail
  refine (isPlace_any _ n c p w).mono ?_
  rintro e' w1 ⟨rfl, rfl⟩
  rw [hoP]
  go_wp2_with fail
  refine (isSize_any k w).mono ?_
  rintro e' w1 ⟨rfl, rfl⟩
  rw [hoS]
  go_wp2
  go_loopw [10, 36] (fun v i W => ∃ j : Nat, j ≤ k ∧ v = .int .u64 (num b p j) ∧ i = .int .i64 j ∧ w = W) (fun _ i _ => k - (intOf i).toNat)
  case atStart => exact ⟨0, by omega, by rw [num_zero]; rfl, rfl, rfl⟩
  case round =>
    obtain ⟨j, hj, rfl, rfl, rfl⟩ := hrel
    by_cases hjk : j < k
    · have c0 := HT.out.cell (p + j) (by omega)
      rw [← add_add] at c0
      have HSUC := Lib.hid (num_succ b p j (by rw [HT.out.len]; omega))
      have HLT := Lib.hid (num_lt b HT.out.lt p j (by rw [HT.out.len]; omega))
      have HX := Lib.hid (HT.out.lt (p + j))
      obtain ⟨m, hm⟩ : ∃ m, num b p j = m := ⟨_, rfl⟩
      obtain ⟨x, hx⟩ : ∃ x, gt b (p + j) = x := ⟨_, rfl⟩
      rw [hm, hx] at HSUC
      rw [hm] at HLT ⊢
      rw [hx] at HX c0
      have yj : (j : Int) < (k : Int) := by omega
      clear hm hx
      go_wp2
      go_roundw
      case rel => exact ⟨j + 1, by omega, by rw [shl_or HLT.out (by omega) HX.out HSUC.out], by go_num, True.intro⟩
      case measure => simp [intOf]; omega
    · obtain rfl : j = k := by omega
      by_cases hbig : 9223372036854775807 < num b p j
      · have HF := Lib.hid (show fin (num b p j) (p + j) = (0, 0, 112) by unfold fin; rw [if_pos hbig])
        obtain ⟨m, hm⟩ : ∃ m, num b p j = m := ⟨_, rfl⟩
        rw [hm] at hbig HF hPost ⊢
        clear hm
        have y3 : (9223372036854775807 : Int) < (m : Int) := by omega
        go_wp2
        go_ret3
        refine hPost.out _ _ ⟨?_, rfl⟩
        rw [HF.out]; rfl
      · have HF := Lib.hid (show fin (num b p j) (p + j) = (num b p j, p + j, 0) by unfold fin; rw [if_neg hbig])
        obtain ⟨m, hm⟩ : ∃ m, num b p j = m := ⟨_, rfl⟩
        rw [hm] at hbig HF hPost ⊢
        clear hm
        have y3 : ¬ (9223372036854775807 : Int) < (m : Int) := by omega
        go_wp2
        go_ret3
        refine hPost.out _ _ ⟨?_, rfl⟩
        rw [HF.out, hq]
        rfl
theorem getNumber_any (A : Option Addr) (b : List Nat) (n c : Nat) (x s : Int) (w : World) (Post : Ending → World → Prop) (hT : Txt Any w A n c b) (hn : n ≤ 8388608)
    (hPost : Hid (∀ e w', Say3 (getN b x s) w e w' → Post e w')) :
    Calls Tryd.prog 12 #[.slice A n c, .int .i64 x, .int .i64 s] w Post := by
  have hl := hT.len
  by_cases h1 : okP n x = true
  · by_cases h2 : okS s = true
    · have h1' : 0 ≤ x ∧ x ≤ n := by simpa [okP] using h1
      obtain ⟨p, rfl⟩ : ∃ p : Nat, x = p := ⟨x.toNat, by omega⟩
      obtain ⟨k, rfl⟩ : ∃ k : Nat, s = k := ⟨s.toNat, by have := okS_true h2; omega⟩
      by_cases h3 : p + k ≤ n
      · obtain ⟨ad, rfl⟩ := hT.some (by have := okS_true h2; omega)
        refine getNumber_to ad b n c p k w Post hT (by have := okS_true h2; omega) h3 hn (Lib.hid fun e w' h => hPost.out e w' ?_)
        have : getN b p k = fin (num b p k) (p + k) := by
          unfold getN fin
          rw [if_neg (by rw [hl, h1, h2]; simp), if_neg (by rw [hl]; simp; omega)]; simp
        rw [this]; exact h
      · have HG := Lib.hid (show getN b p k = (0, 0, 111) by unfold getN; rw [if_neg (by rw [hl, h1, h2]; simp), if_pos (by rw [hl]; simp; omega)])
        have y1 : (n : Int) - (p : Int) < (k : Int) := by omega
        have hpn : p ≤ n := by omega
        clear h1' h3
        go_enter Tryd.func12, Tryd.ntmps12
        go_wp2_with fail
        refine (isPlace_any _ n c p w).mono ?_
        rintro e' w1 ⟨rfl, rfl⟩
        rw [h1]
        go_wp2_with fail
        refine (isSize_any k w).mono ?_
        rintro e' w1 ⟨rfl, rfl⟩
        rw [h2]
        go_wp2
        go_ret3
        exact hPost.out _ _ ⟨by rw [HG.out]; rfl, rfl⟩
    · have h2' : okS s = false := by cases h : okS s <;> simp_all
      have HG := Lib.hid (show getN b x s = (0, 0, 1) by unfold getN; rw [if_pos (.inr h2')])
      go_enter Tryd.func12, Tryd.ntmps12
      go_wp2_with fail
      refine (isPlace_any _ n c x w).mono ?_
      rintro e' w1 ⟨rfl, rfl⟩
      rw [h1]
      go_wp2_with fail
      refine (isSize_any s w).mono ?_
      rintro e' w1 ⟨rfl, rfl⟩
      rw [h2']
      go_wp2
      go_ret3
      exact hPost.out _ _ ⟨by rw [HG.out]; rfl, rfl⟩
  · have h1' : okP n x = false := by cases h : okP n x <;> simp_all
    have HG := Lib.hid (show getN b x s = (0, 0, 1) by unfold getN; rw [if_pos (.inl (by rw [hl]; exact h1'))])
    go_enter Tryd.func12, Tryd.ntmps12
    go_wp2_with fail
    refine (isPlace_any _ n c x w).mono ?_
    rintro e' w1 ⟨rfl, rfl⟩
    rw [h1']
    go_wp2
    go_ret3
    exact hPost.out _ _ ⟨by rw [HG.out]; rfl, rfl⟩
end Go.Proofs.YthjoafldndgahaaDoor.Wr
