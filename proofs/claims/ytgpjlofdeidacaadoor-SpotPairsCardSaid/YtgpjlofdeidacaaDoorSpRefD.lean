/- Walks: the document's own: Over, Other, Down. -/
import Derived.Test.YtgpjlofdeidacaaDoorSpRefC
namespace Go.Proofs.YtgpjlofdeidacaaDoor.Sp
set_option linter.all false
open Go.RowKit Fl

theorem rright_is (re im : Nat) (d : Int) (o : Option (Nat × Nat)) (b : Bool) (w : World) (ho : Is re im o) (hb : rightF d o = b) :
    Calls Tryd.prog 11 #[.complex .f64 re im, .int .i64 d] w fun e w' => e = .returned (.bool b) ∧ Below w.heap.size w w' := by
  by_cases hd : 0 ≤ d ∧ d ≤ 16
  · obtain ⟨k, rfl⟩ := Int.eq_ofNat_of_zero_le hd.1
    rcases o with _ | ⟨l, p⟩
    · obtain rfl : false = b := hb
      exact rright_none re im k w ho hd.1 hd.2
    · refine rright_some re im l p k w ho (by omega) b ?_
      rw [← hb]
      simp only [rightF]
      apply decide_eq_decide.2
      constructor
      · rintro ⟨h1, h2⟩
        have e : ((k : Int) - l).toNat = k - l := by omega
        rw [e]
        exact ⟨by omega, by omega, by omega, by exact_mod_cast h2⟩
      · rintro ⟨-, -, h1, h2⟩
        have e : ((k : Int) - l).toNat = k - l := by omega
        rw [e] at h2
        exact ⟨by omega, by exact_mod_cast h2⟩
  · have : b = false := by
      rw [← hb]
      rcases o with _ | ⟨l, p⟩
      · rfl
      · simp only [rightF]; exact decide_eq_false fun h => hd ⟨h.1, h.2.1⟩
    subst this
    exact rright_deep re im d o w ho hd

set_option maxHeartbeats 2000000 in
theorem rover_is (re im : Nat) (i : Int) (o : Option (Nat × Nat)) (b : Bool) (w : World) (ho : Is re im o) (hb : overF i o = b) :
    Calls Tryd.prog 21 #[.complex .f64 re im, .int .i64 i] w fun e w' => e = .returned (.bool b) ∧ Below w.heap.size w w' := by
  have C1 := Lib.hid (of_is re im o w ho)
  rcases o with _ | ⟨l, p⟩
  · obtain rfl : false = b := hb
    change Hid (Calls _ _ _ _ fun e w' => e = .returned (.agg #[.int .i64 0, .int .i64 0, .bool false]) ∧ _) at C1
    clear ho
    go_enter Tryd.func21, Tryd.ntmps21
    go_wp2_with fail
    refine C1.out.mono ?_
    rintro e' w1 ⟨rfl, hb1⟩
    have HB1 := Lib.hid hb1
    clear hb1
    go_wp2
    obtain ⟨W, hW, S1, HBW⟩ := one_new w1 0 0 false
    rw [hW]
    clear hW
    have q0 := S1.drew.c0; have q1 := S1.drew.c1; have q2 := S1.drew.c2
    have HB2 := Lib.hid (HB1.out.trans (HBW.out.drew.mono HB1.out.size))
    clear S1 HBW HB1
    refine wp_region_still_lit rfl (by kernel_rfl) ?_
    iterate 3 still_step
    iterate 2 (unfold wpStill; rw [if_neg (Bool.eq_false_iff.1 (by kernel_rfl))]; simp only [Act.put, List.setIfInBounds_toArray, List.set_cons_zero, List.set_cons_succ])
    iterate 2 still_step
    iterate 2 (unfold wpStill; rw [if_neg (Bool.eq_false_iff.1 (by kernel_rfl))]; simp only [Act.put, List.setIfInBounds_toArray, List.set_cons_zero, List.set_cons_succ])
    iterate 2 still_step
    iterate 7 (unfold wpStill; rw [if_neg (Bool.eq_false_iff.1 (by kernel_rfl))]; simp only [Act.put, List.setIfInBounds_toArray, List.set_cons_zero, List.set_cons_succ])
    iterate 2 still_step
    refine wpStill_nil ?_
    change Exit.then _ _ Exit.normal _ (World.drew _)
    go_wp2
    go_ret
    exact ⟨rfl, HB2.out⟩
  · change Hid (Calls _ _ _ _ fun e w' => e = .returned (.agg #[.int .i64 (l : Int), .int .i64 (p : Int), .bool true]) ∧ _) at C1
    have b1 := Spot.lev ho
    have b2 := Spot.small ho (by decide)
    clear ho
    by_cases h0 : 0 ≤ i
    · have y0 : decide (0 ≤ i) = true := decide_eq_true h0
      obtain ⟨k, rfl⟩ := Int.eq_ofNat_of_zero_le h0
      by_cases h1 : k < 65536
      · have y1 : decide ((k : Int) < 65536) = true := decide_eq_true (by omega)
        obtain ⟨q, hq⟩ : ∃ q, k / 2 ^ l = q := ⟨_, rfl⟩
        have x1 : (k : Int) / 2 ^ l = (q : Int) := by rw [← hq]; simp
        have x2 : ((q : Int) == (p : Int)) = b := by
          rw [← hb]
          simp only [overF, x1]
          rw [Bool.eq_iff_iff]
          simp only [beq_iff_eq, decide_eq_true_eq]
          exact ⟨fun e => ⟨h0, by omega, e⟩, fun e => e.2.2⟩
        clear hb hq
        go_enter Tryd.func21, Tryd.ntmps21
        go_wp2_with fail
        refine C1.out.mono ?_
        rintro e' w1 ⟨rfl, hb1⟩
        have HB1 := Lib.hid hb1
        clear hb1
        go_wp2
        obtain ⟨W, hW, S1, HBW⟩ := one_new w1 l p true
        rw [hW]
        clear hW
        have q0 := S1.drew.c0; have q1 := S1.drew.c1; have q2 := S1.drew.c2
        have HB2 := Lib.hid (HB1.out.trans (HBW.out.drew.mono HB1.out.size))
        clear S1 HBW HB1
        refine wp_region_still_lit rfl (by kernel_rfl) ?_
        repeat still_step
        refine wpStill_nil ?_
        change Exit.then _ _ Exit.normal _ (World.drew _)
        go_wp2
        go_ret
        exact ⟨rfl, HB2.out⟩
      · have y1 : decide ((k : Int) < 65536) = false := decide_eq_false (by omega)
        obtain rfl : false = b := by rw [← hb]; simp only [overF]; exact (decide_eq_false fun e => h1 (by omega)).symm
        clear hb
        go_enter Tryd.func21, Tryd.ntmps21
        go_wp2_with fail
        refine C1.out.mono ?_
        rintro e' w1 ⟨rfl, hb1⟩
        have HB1 := Lib.hid hb1
        clear hb1
        go_wp2
        obtain ⟨W, hW, S1, HBW⟩ := one_new w1 l p true
        rw [hW]
        clear hW
        have q0 := S1.drew.c0; have q1 := S1.drew.c1; have q2 := S1.drew.c2
        have HB2 := Lib.hid (HB1.out.trans (HBW.out.drew.mono HB1.out.size))
        clear S1 HBW HB1
        refine wp_region_still_lit rfl (by kernel_rfl) ?_
        iterate 11 still_step
        iterate 7 (unfold wpStill; rw [if_neg (Bool.eq_false_iff.1 (by kernel_rfl))]; simp only [Act.put, List.setIfInBounds_toArray, List.set_cons_zero, List.set_cons_succ])
        iterate 2 still_step
        refine wpStill_nil ?_
        change Exit.then _ _ Exit.normal _ (World.drew _)
        go_wp2
        go_ret
        exact ⟨rfl, HB2.out⟩
    · have y0 : decide (0 ≤ i) = false := decide_eq_false h0
      obtain rfl : false = b := by rw [← hb]; simp only [overF]; exact (decide_eq_false fun e => h0 e.1).symm
      clear hb
      go_enter Tryd.func21, Tryd.ntmps21
      go_wp2_with fail
      refine C1.out.mono ?_
      rintro e' w1 ⟨rfl, hb1⟩
      have HB1 := Lib.hid hb1
      clear hb1
      go_wp2
      obtain ⟨W, hW, S1, HBW⟩ := one_new w1 l p true
      rw [hW]
      clear hW
      have q0 := S1.drew.c0; have q1 := S1.drew.c1; have q2 := S1.drew.c2
      have HB2 := Lib.hid (HB1.out.trans (HBW.out.drew.mono HB1.out.size))
      clear S1 HBW HB1
      refine wp_region_still_lit rfl (by kernel_rfl) ?_
      iterate 7 still_step
      iterate 2 (unfold wpStill; rw [if_neg (Bool.eq_false_iff.1 (by kernel_rfl))]; simp only [Act.put, List.setIfInBounds_toArray, List.set_cons_zero, List.set_cons_succ])
      iterate 2 still_step
      iterate 7 (unfold wpStill; rw [if_neg (Bool.eq_false_iff.1 (by kernel_rfl))]; simp only [Act.put, List.setIfInBounds_toArray, List.set_cons_zero, List.set_cons_succ])
      iterate 2 still_step
      refine wpStill_nil ?_
      change Exit.then _ _ Exit.normal _ (World.drew _)
      go_wp2
      go_ret
      exact ⟨rfl, HB2.out⟩

set_option maxHeartbeats 2000000 in
theorem rother_is (re im x y : Nat) (o : Option (Nat × Nat)) (w : World) (ho : Is re im o) (hn : Ws (otherF o) x y) :
    Calls Tryd.prog 17 #[.complex .f64 re im] w fun e w' => e = .returned (.complex .f64 x y) ∧ Below w.heap.size w w' := by
  have C1 := Lib.hid (of_is re im o w ho)
  rcases o with _ | ⟨l, p⟩
  · change Hid (Calls _ _ _ _ fun e w' => e = .returned (.agg #[.int .i64 0, .int .i64 0, .bool false]) ∧ _) at C1
    obtain rfl : 0 = x := by rw [← hn.x]; exact fl0.symm
    obtain rfl : 0 = y := by rw [← hn.y]; exact fl0.symm
    clear ho hn
    go_enter Tryd.func17, Tryd.ntmps17
    go_wp2_with fail
    refine C1.out.mono ?_
    rintro e' w1 ⟨rfl, hb1⟩
    have HB1 := Lib.hid hb1
    clear hb1
    have HB2 := Lib.hid (HB1.out.alloc HB1.out.size (.cells #[.int .i64 0, .int .i64 0, .bool false] 45))
    go_wp2
    go_ret
    exact ⟨rfl, HB2.out⟩
  · change Hid (Calls _ _ _ _ fun e w' => e = .returned (.agg #[.int .i64 (l : Int), .int .i64 (p : Int), .bool true]) ∧ _) at C1
    have b1 := Spot.lev ho
    have b2 := Spot.small ho (by decide)
    clear ho
    by_cases h16 : l = 16
    · obtain rfl : 0 = x := by rw [← hn.x]; simp [otherF, h16, fl0]
      obtain rfl : 0 = y := by rw [← hn.y]; simp [otherF, h16, fl0]
      subst h16
      clear hn
      go_enter Tryd.func17, Tryd.ntmps17
      go_wp2_with fail
      refine C1.out.mono ?_
      rintro e' w1 ⟨rfl, hb1⟩
      have HB1 := Lib.hid hb1
      clear hb1
      have HB2 := Lib.hid (HB1.out.alloc HB1.out.size (.cells #[.int .i64 16, .int .i64 (p : Int), .bool true] 45))
      go_wp2
      go_ret
      exact ⟨rfl, HB2.out⟩
    · have y0 : ((l : Int) == 16) = false := by rw [beq_eq_false_iff_ne]; omega
      obtain ⟨R, hR⟩ : ∃ R, p + 1 - 2 * (p % 2) = R := ⟨_, rfl⟩
      have hw : Ws (l, R) x y := by have h := hn; simp only [otherF, if_neg h16, hR] at h; exact h
      have C2 : Hid (Nm (.agg #[.int .i64 (l : Int), .int .i64 (R : Int), .bool true]) x y) := Lib.hid ⟨.inl ⟨l, R, rfl, hw⟩⟩
      obtain ⟨p1, hp1⟩ : ∃ p1, p + 1 = p1 := ⟨_, rfl⟩
      obtain ⟨r, hr⟩ : ∃ r, p % 2 = r := ⟨_, rfl⟩
      obtain ⟨r2, hr2⟩ : ∃ r2, 2 * r = r2 := ⟨_, rfl⟩
      have x1 : (p : Int) + 1 = (p1 : Int) := by omega
      have x2 : (p : Int).tmod 2 = (r : Int) := by rw [← hr]; rfl
      have x3 : 2 * (r : Int) = (r2 : Int) := by omega
      have x4 : (p1 : Int) - (r2 : Int) = (R : Int) := by omega
      have b3 : (p1 : Int) ≤ 65536 := by omega
      have b4 : (r : Int) ≤ 1 := by omega
      have b5 : (r2 : Int) ≤ 2 := by omega
      have b6 : (R : Int) ≤ 65536 := by omega
      clear hn hR hw hp1 hr hr2 h16
      go_enter Tryd.func17, Tryd.ntmps17
      go_wp2_with fail
      refine C1.out.mono ?_
      rintro e' w1 ⟨rfl, hb1⟩
      have HB1 := Lib.hid hb1
      clear hb1
      have HB2 := Lib.hid (HB1.out.alloc HB1.out.size (.cells #[.int .i64 (l : Int), .int .i64 (p : Int), .bool true] 45))
      clear HB1
      go_wp2_with fail
      refine (number_is C2.out _).mono ?_
      rintro e' w3 ⟨rfl, hb3⟩
      have HB3 := Lib.hid (HB2.out.trans (hb3.mono HB2.out.size))
      clear hb3
      go_wp2
      go_ret
      exact ⟨rfl, HB3.out⟩

set_option maxHeartbeats 2000000 in
theorem rdown_is (re im x y : Nat) (right : Bool) (o : Option (Nat × Nat)) (w : World) (ho : Is re im o) (hn : Ws (downF right o) x y) :
    Calls Tryd.prog 19 #[.complex .f64 re im, .bool right] w fun e w' => e = .returned (.complex .f64 x y) ∧ Below w.heap.size w w' := by
  have C1 := Lib.hid (of_is re im o w ho)
  rcases o with _ | ⟨l, p⟩
  · change Hid (Calls _ _ _ _ fun e w' => e = .returned (.agg #[.int .i64 0, .int .i64 0, .bool false]) ∧ _) at C1
    obtain rfl : 0 = x := by rw [← hn.x]; exact fl0.symm
    obtain rfl : 0 = y := by rw [← hn.y]; exact fl0.symm
    clear ho hn
    go_enter Tryd.func19, Tryd.ntmps19
    go_wp2_with fail
    refine C1.out.mono ?_
    rintro e' w1 ⟨rfl, hb1⟩
    have HB1 := Lib.hid hb1
    clear hb1
    have HB2 := Lib.hid (HB1.out.alloc HB1.out.size (.cells #[.int .i64 0, .int .i64 0, .bool false] 45))
    go_wp2
    go_ret
    exact ⟨rfl, HB2.out⟩
  · change Hid (Calls _ _ _ _ fun e w' => e = .returned (.agg #[.int .i64 (l : Int), .int .i64 (p : Int), .bool true]) ∧ _) at C1
    have b1 := Spot.lev ho
    have b2 := Spot.small ho (by decide)
    clear ho
    by_cases h0 : l = 0
    · obtain rfl : 0 = x := by rw [← hn.x]; simp [downF, h0, fl0]
      obtain rfl : 0 = y := by rw [← hn.y]; simp [downF, h0, fl0]
      subst h0
      clear hn
      go_enter Tryd.func19, Tryd.ntmps19
      go_wp2_with fail
      refine C1.out.mono ?_
      rintro e' w1 ⟨rfl, hb1⟩
      have HB1 := Lib.hid hb1
      clear hb1
      have HB2 := Lib.hid (HB1.out.alloc HB1.out.size (.cells #[.int .i64 0, .int .i64 (p : Int), .bool true] 45))
      go_wp2
      go_ret
      exact ⟨rfl, HB2.out⟩
    · have y0 : ((l : Int) == 0) = false := by rw [beq_eq_false_iff_ne]; omega
      obtain ⟨L, hL⟩ : ∃ L, l - 1 = L := ⟨_, rfl⟩
      obtain ⟨p2, hp2⟩ : ∃ p2, 2 * p = p2 := ⟨_, rfl⟩
      have x1 : (l : Int) - 1 = (L : Int) := by omega
      have x2 : 2 * (p : Int) = (p2 : Int) := by omega
      have b3 : (p2 : Int) ≤ 131072 := by omega
      cases right with
      | false =>
        have hw : Ws (L, p2) x y := by have h := hn; simp only [downF, if_neg h0, hL, hp2] at h; exact h
        have C2 : Hid (Nm (.agg #[.int .i64 (L : Int), .int .i64 (p2 : Int), .bool true]) x y) := Lib.hid ⟨.inl ⟨L, p2, rfl, hw⟩⟩
        clear hn hw hL hp2 h0
        go_enter Tryd.func19, Tryd.ntmps19
        go_wp2_with fail
        refine C1.out.mono ?_
        rintro e' w1 ⟨rfl, hb1⟩
        have HB1 := Lib.hid hb1
        clear hb1
        have HB2 := Lib.hid (HB1.out.alloc HB1.out.size (.cells #[.int .i64 (l : Int), .int .i64 (p : Int), .bool true] 45))
        clear HB1
        go_wp2_with fail
        refine (number_is C2.out _).mono ?_
        rintro e' w3 ⟨rfl, hb3⟩
        have HB3 := Lib.hid (HB2.out.trans (hb3.mono HB2.out.size))
        clear hb3
        go_wp2
        go_ret
        exact ⟨rfl, HB3.out⟩
      | true =>
        obtain ⟨p3, hp3⟩ : ∃ p3, p2 + 1 = p3 := ⟨_, rfl⟩
        have x3 : (p2 : Int) + 1 = (p3 : Int) := by omega
        have b4 : (p3 : Int) ≤ 131073 := by omega
        have hw : Ws (L, p3) x y := by have h := hn; simp only [downF, if_neg h0, hL, hp2, if_true, hp3] at h; exact h
        have C2 : Hid (Nm (.agg #[.int .i64 (L : Int), .int .i64 (p3 : Int), .bool true]) x y) := Lib.hid ⟨.inl ⟨L, p3, rfl, hw⟩⟩
        clear hn hw hL hp2 hp3 h0
        go_enter Tryd.func19, Tryd.ntmps19
        go_wp2_with fail
        refine C1.out.mono ?_
        rintro e' w1 ⟨rfl, hb1⟩
        have HB1 := Lib.hid hb1
        clear hb1
        have HB2 := Lib.hid (HB1.out.alloc HB1.out.size (.cells #[.int .i64 (l : Int), .int .i64 (p : Int), .bool true] 45))
        clear HB1
        go_wp2_with fail
        refine (number_is C2.out _).mono ?_
        rintro e' w3 ⟨rfl, hb3⟩
        have HB3 := Lib.hid (HB2.out.trans (hb3.mono HB2.out.size))
        clear hb3
        go_wp2
        go_ret
        exact ⟨rfl, HB3.out⟩
end Go.Proofs.YtgpjlofdeidacaaDoor.Sp
