/- Walks: the document's own: Index, Right, Over, Other, Down. -/
import Derived.Test.YtgpjlofdeidacaaDoorSpRefB
namespace Go.Proofs.YtgpjlofdeidacaaDoor.Sp
set_option linter.all false
open Go.RowKit Fl

theorem one_new (w : World) (a b : Int) (c : Bool) : ∃ W, w.alloc (.cells #[.int .i64 a, .int .i64 b, .bool c] 45) = W ∧ St w.heap.size a b c W ∧ Hid (Below w.heap.size w W) :=
  ⟨_, rfl, st_new w a b c, Lib.hid ((Below.refl w.heap.size w).alloc (Nat.le_refl _) _)⟩
theorem wrap_small {n : Int} (h1 : -9223372036854775808 ≤ n) (h2 : n ≤ 9223372036854775807) : IntKind.i64.wrap n = n := by rw [IntKind.wrap_i64]; omega

set_option maxHeartbeats 2000000 in
theorem rindex_is (re im : Nat) (o : Option (Nat × Nat)) (n : Int) (w : World) (ho : Is re im o) (hn : indexF o = n) :
    Calls Tryd.prog 13 #[.complex .f64 re im] w fun e w' => e = .returned (.int .i64 n) ∧ Below w.heap.size w w' := by
  have C1 := Lib.hid (of_is re im o w ho)
  rcases o with _ | ⟨l, p⟩
  · obtain rfl : -1 = n := hn
    clear ho
    change Hid (Calls _ _ _ _ fun e w' => e = .returned (.agg #[.int .i64 0, .int .i64 0, .bool false]) ∧ _) at C1
    go_enter Tryd.func13, Tryd.ntmps13
    go_wp2_with fail
    refine C1.out.mono ?_
    rintro e' w1 ⟨rfl, hb1⟩
    have HB1 := Lib.hid hb1
    clear hb1
    have HB2 := Lib.hid (HB1.out.alloc HB1.out.size (.cells #[.int .i64 0, .int .i64 0, .bool false] 45))
    go_wp2
    go_ret
    exact ⟨rfl, HB2.out⟩
  · have hs : Spot re im 16 l p := ho
    have b1 := hs.lev
    have b2 := hs.small (by decide)
    have b3 := number_lt hs.pl hs.lev
    obtain ⟨k, hk⟩ : ∃ k, 2 ^ l = k := ⟨_, rfl⟩
    obtain ⟨N, hN⟩ : ∃ N, (2 * p + 1) * 2 ^ l = N := ⟨_, rfl⟩
    have hN2 : k * (2 * p + 1) = N := by rw [← hk, ← hN, Nat.mul_comm]
    have b4 : 1 ≤ N := by rw [← hN]; exact Nat.mul_pos (by omega) (Nat.two_pow_pos l)
    rw [hN] at b3
    have hk16 : k ≤ 65536 := by rw [← hk]; exact pow_le l b1
    obtain ⟨p2, hp2⟩ : ∃ p2, 2 * p = p2 := ⟨_, rfl⟩
    obtain ⟨p3, hp3⟩ : ∃ p3, p2 + 1 = p3 := ⟨_, rfl⟩
    obtain ⟨R, hR⟩ : ∃ R, R + 1 = N := ⟨N - 1, by omega⟩
    rw [hp2, hp3] at hN2
    have x1 : (2 : Int) ^ l = (k : Int) := by rw [← hk]; simp
    have x2 : 2 * (p : Int) = (p2 : Int) := by omega
    have x3 : (p2 : Int) + 1 = (p3 : Int) := by omega
    have x4 : (k : Int) * (p3 : Int) = (N : Int) := by rw [← hN2]; simp
    have x5 : (N : Int) - 1 = (R : Int) := by omega
    have y1 : IntKind.i64.wrap (k : Int) = (k : Int) := wrap_small (by omega) (by omega)
    have y2 : IntKind.i64.wrap (p2 : Int) = (p2 : Int) := wrap_small (by omega) (by omega)
    have y3 : IntKind.i64.wrap (p3 : Int) = (p3 : Int) := wrap_small (by omega) (by omega)
    have y4 : IntKind.i64.wrap (N : Int) = (N : Int) := wrap_small (by omega) (by omega)
    have y5 : IntKind.i64.wrap (R : Int) = (R : Int) := wrap_small (by omega) (by omega)
    have e : n = (R : Int) := by rw [← hn]; simp only [indexF]; rw [← x5, ← hN]; simp
    subst e
    change Hid (Calls _ _ _ _ fun e w' => e = .returned (.agg #[.int .i64 (l : Int), .int .i64 (p : Int), .bool true]) ∧ _) at C1
    clear ho hs hn hk hN hN2 hp2 hp3 hR b3 b4 hk16 b2
    go_enter Tryd.func13, Tryd.ntmps13
    go_wp2_with fail
    refine C1.out.mono ?_
    rintro e' w1 ⟨rfl, hb1⟩
    have HB1 := Lib.hid hb1
    clear hb1
    go_wp2
    obtain ⟨W, hW, S1, HBW⟩ := one_new w1 l p true
    rw [hW]
    clear hW
    have q0 := S1.drew.c0; have q1 := S1.drew.c1; have q2 := S1.drew.c2
    have HB2 := Lib.hid (HB1.out.trans (HBW.out.drew.mono HB1.out.size))
    clear S1 HBW HB1
    refine wp_region_still_lit rfl (by kernel_rfl) ?_
    repeat still_step
    refine wpStill_nil ?_
    change Exit.then _ _ Exit.normal _ (World.drew _)
    go_wp2
    go_ret
    exact ⟨rfl, HB2.out⟩

theorem ofF_is (o : Option (Nat × Nat)) : ∃ (a b : Int) (c : Bool), ofF o = .agg #[.int .i64 a, .int .i64 b, .bool c] := by
  rcases o with _ | ⟨l, p⟩
  · exact ⟨_, _, _, rfl⟩
  · exact ⟨_, _, _, rfl⟩
set_option maxHeartbeats 2000000 in
theorem rright_deep (re im : Nat) (d : Int) (o : Option (Nat × Nat)) (w : World) (ho : Is re im o) (hd : ¬ (0 ≤ d ∧ d ≤ 16)) :
    Calls Tryd.prog 11 #[.complex .f64 re im, .int .i64 d] w fun e w' => e = .returned (.bool false) ∧ Below w.heap.size w w' := by
  have C1 := Lib.hid (of_is re im o w ho)
  obtain ⟨a, b, c, hv⟩ := ofF_is o
  rw [hv] at C1
  clear ho hv
  by_cases h0 : 0 ≤ d
  · have h1 : ¬ d ≤ 16 := fun h => hd ⟨h0, h⟩
    have y1 : decide (d ≤ 16) = false := decide_eq_false h1
    clear hd
    go_enter Tryd.func11, Tryd.ntmps11
    go_wp2_with fail
    refine C1.out.mono ?_
    rintro e' w1 ⟨rfl, hb1⟩
    have HB1 := Lib.hid hb1
    clear hb1
    go_wp2
    obtain ⟨W, hW, S1, HBW⟩ := one_new w1 a b c
    rw [hW]
    clear hW
    have q0 := S1.drew.c0; have q1 := S1.drew.c1; have q2 := S1.drew.c2
    have HB2 := Lib.hid (HB1.out.trans (HBW.out.drew.mono HB1.out.size))
    clear S1 HBW HB1
    refine wp_region_still_lit rfl (by kernel_rfl) ?_
    iterate 7 still_step
    iterate 2 (unfold wpStill; rw [if_neg (Bool.eq_false_iff.1 (by kernel_rfl))]; simp only [Act.put, List.setIfInBounds_toArray, List.set_cons_zero, List.set_cons_succ])
    iterate 2 still_step
    iterate 4 (unfold wpStill; rw [if_neg (Bool.eq_false_iff.1 (by kernel_rfl))]; simp only [Act.put, List.setIfInBounds_toArray, List.set_cons_zero, List.set_cons_succ])
    iterate 2 still_step
    iterate 8 (unfold wpStill; rw [if_neg (Bool.eq_false_iff.1 (by kernel_rfl))]; simp only [Act.put, List.setIfInBounds_toArray, List.set_cons_zero, List.set_cons_succ])
    iterate 2 still_step
    refine wpStill_nil ?_
    change Exit.then _ _ Exit.normal _ (World.drew _)
    go_wp2
    go_ret
    exact ⟨rfl, HB2.out⟩
  · have y1 : decide (0 ≤ d) = false := decide_eq_false h0
    clear hd
    go_enter Tryd.func11, Tryd.ntmps11
    go_wp2_with fail
    refine C1.out.mono ?_
    rintro e' w1 ⟨rfl, hb1⟩
    have HB1 := Lib.hid hb1
    clear hb1
    go_wp2
    obtain ⟨W, hW, S1, HBW⟩ := one_new w1 a b c
    rw [hW]
    clear hW
    have q0 := S1.drew.c0; have q1 := S1.drew.c1; have q2 := S1.drew.c2
    have HB2 := Lib.hid (HB1.out.trans (HBW.out.drew.mono HB1.out.size))
    clear S1 HBW HB1
    refine wp_region_still_lit rfl (by kernel_rfl) ?_
    iterate 3 still_step
    iterate 2 (unfold wpStill; rw [if_neg (Bool.eq_false_iff.1 (by kernel_rfl))]; simp only [Act.put, List.setIfInBounds_toArray, List.set_cons_zero, List.set_cons_succ])
    iterate 2 still_step
    iterate 2 (unfold wpStill; rw [if_neg (Bool.eq_false_iff.1 (by kernel_rfl))]; simp only [Act.put, List.setIfInBounds_toArray, List.set_cons_zero, List.set_cons_succ])
    iterate 2 still_step
    iterate 4 (unfold wpStill; rw [if_neg (Bool.eq_false_iff.1 (by kernel_rfl))]; simp only [Act.put, List.setIfInBounds_toArray, List.set_cons_zero, List.set_cons_succ])
    iterate 2 still_step
    iterate 8 (unfold wpStill; rw [if_neg (Bool.eq_false_iff.1 (by kernel_rfl))]; simp only [Act.put, List.setIfInBounds_toArray, List.set_cons_zero, List.set_cons_succ])
    iterate 2 still_step
    refine wpStill_nil ?_
    change Exit.then _ _ Exit.normal _ (World.drew _)
    go_wp2
    go_ret
    exact ⟨rfl, HB2.out⟩
set_option maxHeartbeats 2000000 in
theorem rright_none (re im : Nat) (d : Int) (w : World) (ho : Is re im none) (h0 : 0 ≤ d) (h1 : d ≤ 16) :
    Calls Tryd.prog 11 #[.complex .f64 re im, .int .i64 d] w fun e w' => e = .returned (.bool false) ∧ Below w.heap.size w w' := by
  have C1 := Lib.hid (of_is re im none w ho)
  change Hid (Calls _ _ _ _ fun e w' => e = .returned (.agg #[.int .i64 0, .int .i64 0, .bool false]) ∧ _) at C1
  clear ho
  go_enter Tryd.func11, Tryd.ntmps11
  go_wp2_with fail
  refine C1.out.mono ?_
  rintro e' w1 ⟨rfl, hb1⟩
  have HB1 := Lib.hid hb1
  clear hb1
  go_wp2
  obtain ⟨W, hW, S1, HBW⟩ := one_new w1 0 0 false
  rw [hW]
  clear hW
  have q0 := S1.drew.c0; have q1 := S1.drew.c1; have q2 := S1.drew.c2
  have HB2 := Lib.hid (HB1.out.trans (HBW.out.drew.mono HB1.out.size))
  clear S1 HBW HB1
  refine wp_region_still_lit rfl (by kernel_rfl) ?_
  iterate 11 still_step
  iterate 4 (unfold wpStill; rw [if_neg (Bool.eq_false_iff.1 (by kernel_rfl))]; simp only [Act.put, List.setIfInBounds_toArray, List.set_cons_zero, List.set_cons_succ])
  iterate 2 still_step
  iterate 8 (unfold wpStill; rw [if_neg (Bool.eq_false_iff.1 (by kernel_rfl))]; simp only [Act.put, List.setIfInBounds_toArray, List.set_cons_zero, List.set_cons_succ])
  iterate 2 still_step
  refine wpStill_nil ?_
  change Exit.then _ _ Exit.normal _ (World.drew _)
  go_wp2
  go_ret
  exact ⟨rfl, HB2.out⟩
set_option maxHeartbeats 2000000 in
theorem rright_some (re im l p k : Nat) (w : World) (ho : Is re im (some (l, p))) (hk : k ≤ 16) (b : Bool) (hb : decide (l ≤ k ∧ p < 2 ^ (k - l)) = b) :
    Calls Tryd.prog 11 #[.complex .f64 re im, .int .i64 (k : Int)] w fun e w' => e = .returned (.bool b) ∧ Below w.heap.size w w' := by
  have C1 := Lib.hid (of_is re im (some (l, p)) w ho)
  change Hid (Calls _ _ _ _ fun e w' => e = .returned (.agg #[.int .i64 (l : Int), .int .i64 (p : Int), .bool true]) ∧ _) at C1
  have b1 := Spot.lev ho
  have b2 := Spot.small ho (by decide)
  clear ho
  have yk : decide ((k : Int) ≤ 16) = true := decide_eq_true (by omega)
  by_cases h : l ≤ k
  · have yl : decide ((l : Int) ≤ (k : Int)) = true := decide_eq_true (by omega)
    obtain ⟨q, hq⟩ : ∃ q, q + l = k := ⟨k - l, by omega⟩
    have x1 : (k : Int) - (l : Int) = (q : Int) := by omega
    obtain ⟨n, hn⟩ : ∃ n, 2 ^ q = n := ⟨_, rfl⟩
    have x2 : (2 : Int) ^ q = (n : Int) := by rw [← hn]; simp
    have b3 : n ≤ 65536 := by rw [← hn]; exact pow_le q (by omega)
    have y1 : IntKind.i64.wrap (q : Int) = (q : Int) := wrap_small (by omega) (by omega)
    have y2 : IntKind.i64.wrap (n : Int) = (n : Int) := wrap_small (by omega) (by omega)
    rw [show k - l = q by omega, hn] at hb
    by_cases h2 : p < n
    · obtain rfl : true = b := by rw [← hb]; exact (decide_eq_true ⟨h, h2⟩).symm
      have yp : decide ((p : Int) < (n : Int)) = true := decide_eq_true (by omega)
      clear hb hq hn
      go_enter Tryd.func11, Tryd.ntmps11
      go_wp2_with fail
      refine C1.out.mono ?_
      rintro e' w1 ⟨rfl, hb1⟩
      have HB1 := Lib.hid hb1
      clear hb1
      go_wp2
      obtain ⟨W, hW, S1, HBW⟩ := one_new w1 l p true
      rw [hW]
      clear hW
      have q0 := S1.drew.c0; have q1 := S1.drew.c1; have q2 := S1.drew.c2
      have HB2 := Lib.hid (HB1.out.trans (HBW.out.drew.mono HB1.out.size))
      clear S1 HBW HB1
      refine wp_region_still_lit rfl (by kernel_rfl) ?_
      repeat still_step
      refine wpStill_nil ?_
      change Exit.then _ _ Exit.normal _ (World.drew _)
      go_wp2
      go_ret
      exact ⟨rfl, HB2.out⟩
    · obtain rfl : false = b := by rw [← hb]; exact (decide_eq_false fun e => h2 e.2).symm
      have yp : decide ((p : Int) < (n : Int)) = false := decide_eq_false (by omega)
      clear hb hq hn
      go_enter Tryd.func11, Tryd.ntmps11
      go_wp2_with fail
      refine C1.out.mono ?_
      rintro e' w1 ⟨rfl, hb1⟩
      have HB1 := Lib.hid hb1
      clear hb1
      go_wp2
      obtain ⟨W, hW, S1, HBW⟩ := one_new w1 l p true
      rw [hW]
      clear hW
      have q0 := S1.drew.c0; have q1 := S1.drew.c1; have q2 := S1.drew.c2
      have HB2 := Lib.hid (HB1.out.trans (HBW.out.drew.mono HB1.out.size))
      clear S1 HBW HB1
      refine wp_region_still_lit rfl (by kernel_rfl) ?_
      repeat still_step
      refine wpStill_nil ?_
      change Exit.then _ _ Exit.normal _ (World.drew _)
      go_wp2
      go_ret
      exact ⟨rfl, HB2.out⟩
  · obtain rfl : false = b := by rw [← hb]; exact (decide_eq_false fun e => h e.1).symm
    have y1 : decide ((l : Int) ≤ (k : Int)) = false := decide_eq_false (by omega)
    clear hb
    go_enter Tryd.func11, Tryd.ntmps11
    go_wp2_with fail
    refine C1.out.mono ?_
    rintro e' w1 ⟨rfl, hb1⟩
    have HB1 := Lib.hid hb1
    clear hb1
    go_wp2
    obtain ⟨W, hW, S1, HBW⟩ := one_new w1 l p true
    rw [hW]
    clear hW
    have q0 := S1.drew.c0; have q1 := S1.drew.c1; have q2 := S1.drew.c2
    have HB2 := Lib.hid (HB1.out.trans (HBW.out.drew.mono HB1.out.size))
    clear S1 HBW HB1
    refine wp_region_still_lit rfl (by kernel_rfl) ?_
    iterate 17 still_step
    iterate 8 (unfold wpStill; rw [if_neg (Bool.eq_false_iff.1 (by kernel_rfl))]; simp only [Act.put, List.setIfInBounds_toArray, List.set_cons_zero, List.set_cons_succ])
    iterate 2 still_step
    refine wpStill_nil ?_
    change Exit.then _ _ Exit.normal _ (World.drew _)
    go_wp2
    go_ret
    exact ⟨rfl, HB2.out⟩
end Go.Proofs.YtgpjlofdeidacaaDoor.Sp
