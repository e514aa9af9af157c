/- The document's own: GetNumber. -/
import Derived.Test.YthjoafldndgahaaDoorWrRefA
namespace Go.Proofs.YthjoafldndgahaaDoor.Wr
set_option linter.all false
open Go.RowKit

theorem okP_true' {n : Nat} {x : Int} (h : okP n x = true) : ∃ p : Nat, x = p ∧ p ≤ n := by
  have h' : 0 ≤ x ∧ x ≤ n := by simpa [okP] using h
  exact ⟨x.toNat, by omega, by omega⟩
set_option maxHeartbeats 2000000 in
set_option maxRecDepth 100000 in
theorem rgetNumber_1 (ad : Addr) (b : List Nat) (n c p : Nat) (w : World) (Post : Ending → World → Prop) (hT : Txt Any w (some ad) n c b) (hp : p + 1 ≤ n) (hn : n ≤ 8388608)
    (hPost : Hid (∀ e w', Say3 (fin (num b p 1) (p + 1)) w e w' → Post e w')) :
    Calls Tryd.prog 13 #[.slice (some ad) n c, .int .i64 p, .int .i64 1] w Post := by
  have HT := Lib.hid hT; clear hT
  have y1 : ¬ (n : Int) - (p : Int) < 1 := by omega
  have y2 : ¬ (p : Int) < 0 := by omega
  have y3 : ¬ (n : Int) < (p : Int) := by omega
  obtain ⟨q, hq, hq'⟩ : ∃ q : Nat, p + 1 = q ∧ (p : Int) + 1 = (q : Int) := ⟨_, rfl, by omega⟩
  go_enter Tryd.func13, Tryd.ntmps13
  go_wp2
  try rw [show decide ((n : Int) - (p : Int) < 1) = false from decide_eq_false (by omega)]
  go_loopw [9, 10] (fun v i W => ∃ j : Nat, j ≤ 1 ∧ v = .int .u64 (num b p j) ∧ i = .int .i64 j ∧ w = W) (fun _ i _ => 1 - (intOf i).toNat)
  case atStart => exact ⟨0, by omega, by rw [num_zero]; rfl, rfl, rfl⟩
  case round =>
    obtain ⟨j, hj, rfl, rfl, rfl⟩ := hrel
    by_cases hjk : j < 1
    · have c0 := HT.out.cell (p + j) (by omega)
      have HSUC := Lib.hid (num_succ b p j (by rw [HT.out.len]; omega))
      have HLT := Lib.hid (num_lt b HT.out.lt p j (by rw [HT.out.len]; omega))
      have HX := Lib.hid (HT.out.lt (p + j))
      obtain ⟨m, hm⟩ : ∃ m, num b p j = m := ⟨_, rfl⟩
      obtain ⟨x, hx⟩ : ∃ x, gt b (p + j) = x := ⟨_, rfl⟩
      rw [hm, hx] at HSUC
      rw [hm] at HLT ⊢
      rw [hx] at HX c0
      obtain ⟨d, hd, hd', hdn⟩ : ∃ d : Nat, p + j = d ∧ (p : Int) + (j : Int) = (d : Int) ∧ d < n := ⟨_, rfl, by omega, by omega⟩
      rw [hd] at c0
      have yj : (j : Int) < 1 := by omega
      clear hm hx hd
      go_wp2
      go_roundw
      case rel => exact ⟨j + 1, by omega, by rw [shl_or HLT.out (by omega) HX.out HSUC.out], by go_num, True.intro⟩
      case measure => simp [intOf]; omega
    · obtain rfl : j = 1 := by omega
      clear hj hjk
      by_cases hbig : 9223372036854775807 < num b p 1
      · have HF := Lib.hid (show fin (num b p 1) (p + 1) = (0, 0, 112) by unfold fin; rw [if_pos hbig])
        obtain ⟨m, hm⟩ : ∃ m, num b p 1 = m := ⟨_, rfl⟩
        rw [hm] at hbig HF hPost ⊢
        clear hm
        have y4 : (9223372036854775807 : Int) < (m : Int) := by omega
        go_wp2
        go_ret3
        refine hPost.out _ _ ⟨?_, rfl⟩
        rw [HF.out]; rfl
      · have HF := Lib.hid (show fin (num b p 1) (p + 1) = (num b p 1, p + 1, 0) by unfold fin; rw [if_neg hbig])
        obtain ⟨m, hm⟩ : ∃ m, num b p 1 = m := ⟨_, rfl⟩
        rw [hm] at hbig HF hPost ⊢
        clear hm
        have y4 : ¬ (9223372036854775807 : Int) < (m : Int) := by omega
        go_wp2
        go_ret3
        refine hPost.out _ _ ⟨?_, rfl⟩
        rw [HF.out, hq]
        rfl
set_option maxHeartbeats 2000000 in
set_option maxRecDepth 100000 in
theorem rgetNumber_2 (ad : Addr) (b : List Nat) (n c p : Nat) (w : World) (Post : Ending → World → Prop) (hT : Txt Any w (some ad) n c b) (hp : p + 2 ≤ n) (hn : n ≤ 8388608)
    (hPost : Hid (∀ e w', Say3 (fin (num b p 2) (p + 2)) w e w' → Post e w')) :
    Calls Tryd.prog 13 #[.slice (some ad) n c, .int .i64 p, .int .i64 2] w Post := by
  have HT := Lib.hid hT; clear hT
  have y1 : ¬ (n : Int) - (p : Int) < 2 := by omega
  have y2 : ¬ (p : Int) < 0 := by omega
  have y3 : ¬ (n : Int) < (p : Int) := by omega
  obtain ⟨q, hq, hq'⟩ : ∃ q : Nat, p + 2 = q ∧ (p : Int) + 2 = (q : Int) := ⟨_, rfl, by omega⟩
  go_enter Tryd.func13, Tryd.ntmps13
  go_wp2
  try rw [show decide ((n : Int) - (p : Int) < 2) = false from decide_eq_false (by omega)]
  go_loopw [9, 10] (fun v i W => ∃ j : Nat, j ≤ 2 ∧ v = .int .u64 (num b p j) ∧ i = .int .i64 j ∧ w = W) (fun _ i _ => 2 - (intOf i).toNat)
  case atStart => exact ⟨0, by omega, by rw [num_zero]; rfl, rfl, rfl⟩
  case round =>
    obtain ⟨j, hj, rfl, rfl, rfl⟩ := hrel
    by_cases hjk : j < 2
    · have c0 := HT.out.cell (p + j) (by omega)
      have HSUC := Lib.hid (num_succ b p j (by rw [HT.out.len]; omega))
      have HLT := Lib.hid (num_lt b HT.out.lt p j (by rw [HT.out.len]; omega))
      have HX := Lib.hid (HT.out.lt (p + j))
      obtain ⟨m, hm⟩ : ∃ m, num b p j = m := ⟨_, rfl⟩
      obtain ⟨x, hx⟩ : ∃ x, gt b (p + j) = x := ⟨_, rfl⟩
      rw [hm, hx] at HSUC
      rw [hm] at HLT ⊢
      rw [hx] at HX c0
      obtain ⟨d, hd, hd', hdn⟩ : ∃ d : Nat, p + j = d ∧ (p : Int) + (j : Int) = (d : Int) ∧ d < n := ⟨_, rfl, by omega, by omega⟩
      rw [hd] at c0
      have yj : (j : Int) < 2 := by omega
      clear hm hx hd
      go_wp2
      go_roundw
      case rel => exact ⟨j + 1, by omega, by rw [shl_or HLT.out (by omega) HX.out HSUC.out], by go_num, True.intro⟩
      case measure => simp [intOf]; omega
    · obtain rfl : j = 2 := by omega
      clear hj hjk
      by_cases hbig : 9223372036854775807 < num b p 2
      · have HF := Lib.hid (show fin (num b p 2) (p + 2) = (0, 0, 112) by unfold fin; rw [if_pos hbig])
        obtain ⟨m, hm⟩ : ∃ m, num b p 2 = m := ⟨_, rfl⟩
        rw [hm] at hbig HF hPost ⊢
        clear hm
        have y4 : (9223372036854775807 : Int) < (m : Int) := by omega
        go_wp2
        go_ret3
        refine hPost.out _ _ ⟨?_, rfl⟩
        rw [HF.out]; rfl
      · have HF := Lib.hid (show fin (num b p 2) (p + 2) = (num b p 2, p + 2, 0) by unfold fin; rw [if_neg hbig])
        obtain ⟨m, hm⟩ : ∃ m, num b p 2 = m := ⟨_, rfl⟩
        rw [hm] at hbig HF hPost ⊢
        clear hm
        have y4 : ¬ (9223372036854775807 : Int) < (m : Int) := by omega
        go_wp2
        go_ret3
        refine hPost.out _ _ ⟨?_, rfl⟩
        rw [HF.out, hq]
        rfl
set_option maxHeartbeats 2000000 in
set_option maxRecDepth 100000 in
theorem rgetNumber_4 (ad : Addr) (b : List Nat) (n c p : Nat) (w : World) (Post : Ending → World → Prop) (hT : Txt Any w (some ad) n c b) (hp : p + 4 ≤ n) (hn : n ≤ 8388608)
    (hPost : Hid (∀ e w', Say3 (fin (num b p 4) (p + 4)) w e w' → Post e w')) :
    Calls Tryd.prog 13 #[.slice (some ad) n c, .int .i64 p, .int .i64 4] w Post := by
  have HT := Lib.hid hT; clear hT
  have y1 : ¬ (n : Int) - (p : Int) < 4 := by omega
  have y2 : ¬ (p : Int) < 0 := by omega
  have y3 : ¬ (n : Int) < (p : Int) := by omega
  obtain ⟨q, hq, hq'⟩ : ∃ q : Nat, p + 4 = q ∧ (p : Int) + 4 = (q : Int) := ⟨_, rfl, by omega⟩
  go_enter Tryd.func13, Tryd.ntmps13
  go_wp2
  try rw [show decide ((n : Int) - (p : Int) < 4) = false from decide_eq_false (by omega)]
  go_loopw [9, 10] (fun v i W => ∃ j : Nat, j ≤ 4 ∧ v = .int .u64 (num b p j) ∧ i = .int .i64 j ∧ w = W) (fun _ i _ => 4 - (intOf i).toNat)
  case atStart => exact ⟨0, by omega, by rw [num_zero]; rfl, rfl, rfl⟩
  case round =>
    obtain ⟨j, hj, rfl, rfl, rfl⟩ := hrel
    by_cases hjk : j < 4
    · have c0 := HT.out.cell (p + j) (by omega)
      have HSUC := Lib.hid (num_succ b p j (by rw [HT.out.len]; omega))
      have HLT := Lib.hid (num_lt b HT.out.lt p j (by rw [HT.out.len]; omega))
      have HX := Lib.hid (HT.out.lt (p + j))
      obtain ⟨m, hm⟩ : ∃ m, num b p j = m := ⟨_, rfl⟩
      obtain ⟨x, hx⟩ : ∃ x, gt b (p + j) = x := ⟨_, rfl⟩
      rw [hm, hx] at HSUC
      rw [hm] at HLT ⊢
      rw [hx] at HX c0
      obtain ⟨d, hd, hd', hdn⟩ : ∃ d : Nat, p + j = d ∧ (p : Int) + (j : Int) = (d : Int) ∧ d < n := ⟨_, rfl, by omega, by omega⟩
      rw [hd] at c0
      have yj : (j : Int) < 4 := by omega
      clear hm hx hd
      go_wp2
      go_roundw
      case rel => exact ⟨j + 1, by omega, by rw [shl_or HLT.out (by omega) HX.out HSUC.out], by go_num, True.intro⟩
      case measure => simp [intOf]; omega
    · obtain rfl : j = 4 := by omega
      clear hj hjk
      by_cases hbig : 9223372036854775807 < num b p 4
      · have HF := Lib.hid (show fin (num b p 4) (p + 4) = (0, 0, 112) by unfold fin; rw [if_pos hbig])
        obtain ⟨m, hm⟩ : ∃ m, num b p 4 = m := ⟨_, rfl⟩
        rw [hm] at hbig HF hPost ⊢
        clear hm
        have y4 : (9223372036854775807 : Int) < (m : Int) := by omega
        go_wp2
        go_ret3
        refine hPost.out _ _ ⟨?_, rfl⟩
        rw [HF.out]; rfl
      · have HF := Lib.hid (show fin (num b p 4) (p + 4) = (num b p 4, p + 4, 0) by unfold fin; rw [if_neg hbig])
        obtain ⟨m, hm⟩ : ∃ m, num b p 4 = m := ⟨_, rfl⟩
        rw [hm] at hbig HF hPost ⊢
        clear hm
        have y4 : ¬ (9223372036854775807 : Int) < (m : Int) := by omega
        go_wp2
        go_ret3
        refine hPost.out _ _ ⟨?_, rfl⟩
        rw [HF.out, hq]
        rfl
set_option maxHeartbeats 2000000 in
set_option maxRecDepth 100000 in
theorem rgetNumber_8 (ad : Addr) (b : List Nat) (n c p : Nat) (w : World) (Post : Ending → World → Prop) (hT : Txt Any w (some ad) n c b) (hp : p + 8 ≤ n) (hn : n ≤ 8388608)
    (hPost : Hid (∀ e w', Say3 (fin (num b p 8) (p + 8)) w e w' → Post e w')) :
    Calls Tryd.prog 13 #[.slice (some ad) n c, .int .i64 p, .int .i64 8] w Post := by
  have HT := Lib.hid hT; clear hT
  have y1 : ¬ (n : Int) - (p : Int) < 8 := by omega
  have y2 : ¬ (p : Int) < 0 := by omega
  have y3 : ¬ (n : Int) < (p : Int) := by omega
  obtain ⟨q, hq, hq'⟩ : ∃ q : Nat, p + 8 = q ∧ (p : Int) + 8 = (q : Int) := ⟨_, rfl, by omega⟩
  go_enter Tryd.func13, Tryd.ntmps13
  go_wp2
  try rw [show decide ((n : Int) - (p : Int) < 8) = false from decide_eq_false (by omega)]
  go_loopw [9, 10] (fun v i W => ∃ j : Nat, j ≤ 8 ∧ v = .int .u64 (num b p j) ∧ i = .int .i64 j ∧ w = W) (fun _ i _ => 8 - (intOf i).toNat)
  case atStart => exact ⟨0, by omega, by rw [num_zero]; rfl, rfl, rfl⟩
  case round =>
    obtain ⟨j, hj, rfl, rfl, rfl⟩ := hrel
    by_cases hjk : j < 8
    · have c0 := HT.out.cell (p + j) (by omega)
      have HSUC := Lib.hid (num_succ b p j (by rw [HT.out.len]; omega))
      have HLT := Lib.hid (num_lt b HT.out.lt p j (by rw [HT.out.len]; omega))
      have HX := Lib.hid (HT.out.lt (p + j))
      obtain ⟨m, hm⟩ : ∃ m, num b p j = m := ⟨_, rfl⟩
      obtain ⟨x, hx⟩ : ∃ x, gt b (p + j) = x := ⟨_, rfl⟩
      rw [hm, hx] at HSUC
      rw [hm] at HLT ⊢
      rw [hx] at HX c0
      obtain ⟨d, hd, hd', hdn⟩ : ∃ d : Nat, p + j = d ∧ (p : Int) + (j : Int) = (d : Int) ∧ d < n := ⟨_, rfl, by omega, by omega⟩
      rw [hd] at c0
      have yj : (j : Int) < 8 := by omega
      clear hm hx hd
      go_wp2
      go_roundw
      case rel => exact ⟨j + 1, by omega, by rw [shl_or HLT.out (by omega) HX.out HSUC.out], by go_num, True.intro⟩
      case measure => simp [intOf]; omega
    · obtain rfl : j = 8 := by omega
      clear hj hjk
      by_cases hbig : 9223372036854775807 < num b p 8
      · have HF := Lib.hid (show fin (num b p 8) (p + 8) = (0, 0, 112) by unfold fin; rw [if_pos hbig])
        obtain ⟨m, hm⟩ : ∃ m, num b p 8 = m := ⟨_, rfl⟩
        rw [hm] at hbig HF hPost ⊢
        clear hm
        have y4 : (9223372036854775807 : Int) < (m : Int) := by omega
        go_wp2
        go_ret3
        refine hPost.out _ _ ⟨?_, rfl⟩
        rw [HF.out]; rfl
      · have HF := Lib.hid (show fin (num b p 8) (p + 8) = (num b p 8, p + 8, 0) by unfold fin; rw [if_neg hbig])
        obtain ⟨m, hm⟩ : ∃ m, num b p 8 = m := ⟨_, rfl⟩
        rw [hm] at hbig HF hPost ⊢
        clear hm
        have y4 : ¬ (9223372036854775807 : Int) < (m : Int) := by omega
        go_wp2
        go_ret3
        refine hPost.out _ _ ⟨?_, rfl⟩
        rw [HF.out, hq]
        rfl

set_option maxHeartbeats 2000000 in
set_option maxRecDepth 100000 in
theorem rgetNumber_any (A : Option Addr) (b : List Nat) (n c : Nat) (x s : Int) (w : World) (Post : Ending → World → Prop) (hT : Txt Any w A n c b) (hn : n ≤ 8388608)
    (hPost : Hid (∀ e w', Say3 (getN b x s) w e w' → Post e w')) :
    Calls Tryd.prog 13 #[.slice A n c, .int .i64 x, .int .i64 s] w Post := by
  have hl := hT.len
  by_cases h1 : okP n x = true
  · obtain ⟨p, rfl, hpn⟩ := okP_true' h1
    have y2 : ¬ (p : Int) < 0 := by omega
    have y3 : ¬ (n : Int) < (p : Int) := by omega
    by_cases h2 : okS s = true
    · rcases okS_true h2 with rfl | rfl | rfl | rfl
      · by_cases h3 : p + 1 ≤ n
        · obtain ⟨ad, rfl⟩ := hT.some (by omega)
          refine rgetNumber_1 ad b n c p w Post hT h3 hn (Lib.hid fun e w' h => hPost.out e w' ?_)
          have : getN b p 1 = fin (num b p 1) (p + 1) := by
            unfold getN fin
            rw [if_neg (by rw [hl, h1, h2]; simp), if_neg (by rw [hl]; simp; omega)]; simp
          rw [this]; exact h
        · have HG := Lib.hid (show getN b p 1 = (0, 0, 111) by unfold getN; rw [if_neg (by rw [hl, h1, h2]; simp), if_pos (by rw [hl]; simp; omega)])
          have y1 : (n : Int) - (p : Int) < 1 := by omega
          clear h3 h1 h2 hl hT
          go_enter Tryd.func13, Tryd.ntmps13
          go_wp2
          go_ret3
          exact hPost.out _ _ ⟨by rw [HG.out]; rfl, rfl⟩
      · by_cases h3 : p + 2 ≤ n
        · obtain ⟨ad, rfl⟩ := hT.some (by omega)
          refine rgetNumber_2 ad b n c p w Post hT h3 hn (Lib.hid fun e w' h => hPost.out e w' ?_)
          have : getN b p 2 = fin (num b p 2) (p + 2) := by
            unfold getN fin
            rw [if_neg (by rw [hl, h1, h2]; simp), if_neg (by rw [hl]; simp; omega)]; simp
          rw [this]; exact h
        · have HG := Lib.hid (show getN b p 2 = (0, 0, 111) by unfold getN; rw [if_neg (by rw [hl, h1, h2]; simp), if_pos (by rw [hl]; simp; omega)])
          have y1 : (n : Int) - (p : Int) < 2 := by omega
          clear h3 h1 h2 hl hT
          go_enter Tryd.func13, Tryd.ntmps13
          go_wp2
          go_ret3
          exact hPost.out _ _ ⟨by rw [HG.out]; rfl, rfl⟩
      · by_cases h3 : p + 4 ≤ n
        · obtain ⟨ad, rfl⟩ := hT.some (by omega)
          refine rgetNumber_4 ad b n c p w Post hT h3 hn (Lib.hid fun e w' h => hPost.out e w' ?_)
          have : getN b p 4 = fin (num b p 4) (p + 4) := by
            unfold getN fin
            rw [if_neg (by rw [hl, h1, h2]; simp), if_neg (by rw [hl]; simp; omega)]; simp
          rw [this]; exact h
        · have HG := Lib.hid (show getN b p 4 = (0, 0, 111) by unfold getN; rw [if_neg (by rw [hl, h1, h2]; simp), if_pos (by rw [hl]; simp; omega)])
          have y1 : (n : Int) - (p : Int) < 4 := by omega
          clear h3 h1 h2 hl hT
          go_enter Tryd.func13, Tryd.ntmps13
          go_wp2
          go_ret3
          exact hPost.out _ _ ⟨by rw [HG.out]; rfl, rfl⟩
      · by_cases h3 : p + 8 ≤ n
        · obtain ⟨ad, rfl⟩ := hT.some (by omega)
          refine rgetNumber_8 ad b n c p w Post hT h3 hn (Lib.hid fun e w' h => hPost.out e w' ?_)
          have : getN b p 8 = fin (num b p 8) (p + 8) := by
            unfold getN fin
            rw [if_neg (by rw [hl, h1, h2]; simp), if_neg (by rw [hl]; simp; omega)]; simp
          rw [this]; exact h
        · have HG := Lib.hid (show getN b p 8 = (0, 0, 111) by unfold getN; rw [if_neg (by rw [hl, h1, h2]; simp), if_pos (by rw [hl]; simp; omega)])
          have y1 : (n : Int) - (p : Int) < 8 := by omega
          clear h3 h1 h2 hl hT
          go_enter Tryd.func13, Tryd.ntmps13
          go_wp2
          go_ret3
          exact hPost.out _ _ ⟨by rw [HG.out]; rfl, rfl⟩
    · have HG := Lib.hid (show getN b p s = (0, 0, 1) by unfold getN; rw [if_pos (.inr (by cases h : okS s <;> simp_all))])
      obtain ⟨x1, x2, x4, x8⟩ := okS_false h2
      have z1 : (s != 1) = true := bne_iff_ne.2 x1
      have z2 : (s != 2) = true := bne_iff_ne.2 x2
      have z4 : (s != 4) = true := bne_iff_ne.2 x4
      have z8 : (s != 8) = true := bne_iff_ne.2 x8
      clear h1 h2 hl hT
      go_enter Tryd.func13, Tryd.ntmps13
      go_wp2
      go_ret3
      exact hPost.out _ _ ⟨by rw [HG.out]; rfl, rfl⟩
  · have h1' : okP n x = false := by cases h : okP n x <;> simp_all
    have HG := Lib.hid (show getN b x s = (0, 0, 1) by unfold getN; rw [if_pos (.inl (by rw [hl]; exact h1'))])
    have h2 : ¬ (0 ≤ x ∧ x ≤ n) := by intro h; exact h1 (by simpa [okP] using h)
    clear hl hT h1 h1'
    by_cases h3 : x < 0
    · go_enter Tryd.func13, Tryd.ntmps13
      go_wp2
      go_ret3
      exact hPost.out _ _ ⟨by rw [HG.out]; rfl, rfl⟩
    · have y2 : (n : Int) < x := by omega
      clear h2
      go_enter Tryd.func13, Tryd.ntmps13
      go_wp2
      go_ret3
      exact hPost.out _ _ ⟨by rw [HG.out]; rfl, rfl⟩
end Go.Proofs.YthjoafldndgahaaDoor.Wr
