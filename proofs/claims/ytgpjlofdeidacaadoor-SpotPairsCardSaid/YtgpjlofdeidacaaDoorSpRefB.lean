/- Walks: the document's own: up, Number, Up, Right, Index; the program's Right in the same words. -/
import Derived.Test.YtgpjlofdeidacaaDoorSpRefA
namespace Go.Proofs.YtgpjlofdeidacaaDoor.Sp
set_option linter.all false
open Go.RowKit Fl

theorem nz_one {x a b : Nat} (h : Nz x a) (k : Nz x b) (ha : a < 2 ^ 52) (hb : b < 2 ^ 52) : a = b := by
  have h1 := toInt_nz h (by omega)
  have h2 := toInt_nz k (by omega)
  rw [h1] at h2
  have := Option.some.inj h2
  omega
/-- is it a spot of a tree so deep -/
def rightF (d : Int) : Option (Nat × Nat) → Bool
  | some (l, p) => decide (0 ≤ d ∧ d ≤ 16 ∧ (l : Int) ≤ d ∧ (p : Int) < 2 ^ (d - l).toNat)
  | none => false
theorem right_is (re im : Nat) (d : Int) (o : Option (Nat × Nat)) (b : Bool) (w : World) (ho : Is re im o) (hb : rightF d o = b) :
    Calls Tryd.prog 10 #[.complex .f64 re im, .int .i64 d] w fun e w' => e = .returned (.bool b) ∧ w = w' := by
  by_cases hd : 0 ≤ d ∧ d ≤ 16
  · obtain ⟨k, rfl⟩ := Int.eq_ofNat_of_zero_le hd.1
    have hk : k ≤ 16 := by omega
    rcases o with _ | ⟨l, p⟩
    · obtain rfl : false = b := hb
      refine right_no re im k w ho.1 ho.2.1 (fun l p hs => ho.2.2 l p ⟨hs.re, hs.im, by have := hs.lev; omega, ?_⟩) hk
      have h1 := hs.pl
      have h2 : 2 ^ (k - l) ≤ 2 ^ (16 - l) := Nat.pow_le_pow_right (by decide) (by omega)
      omega
    · have hs : Spot re im 16 l p := ho
      have b1 := hs.lev
      have b2 := hs.small (by decide)
      have key : rightF (k : Int) (some (l, p)) = decide (l ≤ k ∧ p < 2 ^ (k - l)) := by
        simp only [rightF]
        apply decide_eq_decide.2
        constructor
        · rintro ⟨-, -, h1, h2⟩
          have e : ((k : Int) - l).toNat = k - l := by omega
          rw [e] at h2
          exact ⟨by omega, by exact_mod_cast h2⟩
        · rintro ⟨h1, h2⟩
          have e : ((k : Int) - l).toNat = k - l := by omega
          rw [e]
          exact ⟨by omega, by omega, by omega, by exact_mod_cast h2⟩
      rw [key] at hb
      by_cases h : l ≤ k ∧ p < 2 ^ (k - l)
      · rw [decide_eq_true h] at hb
        subst hb
        exact right_yes re im k l p w ⟨hs.re, hs.im, h.1, h.2⟩ hk
      · rw [decide_eq_false h] at hb
        subst hb
        refine right_no re im k w hs.re.lt hs.im.lt (fun l' p' hs' => h ?_) hk
        have c1 : l' < 2 ^ 52 := by have := hs'.lev; omega
        have c2 : p' < 2 ^ 52 := by have := hs'.small hk; omega
        obtain rfl := nz_one hs.re hs'.re (by omega) c1
        obtain rfl := nz_one hs.im hs'.im (by omega) c2
        exact ⟨hs'.lev, hs'.pl⟩
  · have : b = false := by
      rw [← hb]
      rcases o with _ | ⟨l, p⟩
      · rfl
      · simp only [rightF]; exact decide_eq_false fun h => hd ⟨h.1, h.2.1⟩
    subst this
    exact right_deep re im d w hd

set_option maxHeartbeats 1000000 in
theorem number_yes (l p x y : Nat) (w : World) (hw : Ws (l, p) x y) :
    Calls Tryd.prog 33 #[.agg #[.int .i64 (l : Int), .int .i64 (p : Int), .bool true]] w fun e w' => e = .returned (.complex .f64 x y) ∧ Below w.heap.size w w' := by
  have n1 := nearest_is l
  have n2 := nearest_is p
  rw [show fl l = x from hw.x] at n1
  rw [show fl p = y from hw.y] at n2
  have HB := Lib.hid ((Below.refl w.heap.size w).alloc (Nat.le_refl _) (.cells #[.int .i64 (l : Int), .int .i64 (p : Int), .bool true] 45))
  clear hw
  go_enter Tryd.func33, Tryd.ntmps33
  go_wp2
  go_ret
  exact ⟨rfl, HB.out⟩
set_option maxHeartbeats 1000000 in
theorem number_no (w : World) :
    Calls Tryd.prog 33 #[.agg #[.int .i64 0, .int .i64 0, .bool false]] w fun e w' => e = .returned (.complex .f64 0 0) ∧ Below w.heap.size w w' := by
  have HB := Lib.hid ((Below.refl w.heap.size w).alloc (Nat.le_refl _) (.cells #[.int .i64 0, .int .i64 0, .bool false] 45))
  go_enter Tryd.func33, Tryd.ntmps33
  go_wp2
  go_ret
  exact ⟨rfl, HB.out⟩
/-- a value is a spot of the document's, whose number is x, y -/
structure Nm (v : Value) (x y : Nat) : Prop where
  is : (∃ l p : Nat, v = .agg #[.int .i64 (l : Int), .int .i64 (p : Int), .bool true] ∧ Ws (l, p) x y) ∨ (v = .agg #[.int .i64 0, .int .i64 0, .bool false] ∧ x = 0 ∧ y = 0)
theorem number_is {v : Value} {x y : Nat} (h : Nm v x y) (w : World) :
    Calls Tryd.prog 33 #[v] w fun e w' => e = .returned (.complex .f64 x y) ∧ Below w.heap.size w w' := by
  rcases h.is with ⟨l, p, rfl, hw⟩ | ⟨rfl, rfl, rfl⟩
  · exact number_yes l p x y w hw
  · exact number_no w

/-- what up tells -/
def upV : Option (Nat × Nat) → Value
  | some (l, p) => if l = 16 then .agg #[.int .i64 0, .int .i64 0, .bool false] else .agg #[.int .i64 ((l + 1 : Nat) : Int), .int .i64 ((p / 2 : Nat) : Int), .bool true]
  | none => .agg #[.int .i64 0, .int .i64 0, .bool false]
theorem upV_nm (o : Option (Nat × Nat)) : Nm (upV o) (fl (upF o).1) (fl (upF o).2) := by
  rcases o with _ | ⟨l, p⟩
  · exact ⟨.inr ⟨rfl, fl0, fl0⟩⟩
  · by_cases h : l = 16
    · simp only [upV, upF, if_pos h]; exact ⟨.inr ⟨rfl, fl0, fl0⟩⟩
    · simp only [upV, upF, if_neg h]; exact ⟨.inl ⟨_, _, rfl, rfl, rfl⟩⟩
theorem last_two (w : World) (A B : Array Value) : ((w.alloc (.cells A 45)).alloc (.cells B 45)).heap[w.heap.size + 1]? = some (.cells B 45 (0, 0)) := by
  have h := heap_alloc_last (w.alloc (.cells A 45)) (.cells B 45)
  rwa [show (w.alloc (.cells A 45)).heap.size = w.heap.size + 1 by simp] at h
theorem below_two (w : World) (A B : Array Value) : Below w.heap.size w ((w.alloc (.cells A 45)).alloc (.cells B 45)) :=
  ((Below.refl w.heap.size w).alloc (Nat.le_refl _) _).alloc (by simp) _
set_option maxHeartbeats 1000000 in
theorem rup_some (l p : Nat) (w : World) (hl : l ≤ 16) (hp : p < 65536) :
    Calls Tryd.prog 32 #[.agg #[.int .i64 (l : Int), .int .i64 (p : Int), .bool true]] w fun e w' => e = .returned (upV (some (l, p))) ∧ Below w.heap.size w w' := by
  by_cases h : l = 16
  · subst h
    go_enter Tryd.func32, Tryd.ntmps32
    go_wp2
    refine bodyPost_ret (v := .agg (cs3 0 0 false)) (results_cell_row (p := 2) (ty := 45) (by kernel_rfl) _ _ (w.heap.size + 1) 45 (cs3 0 0 false) (0, 0) _ rfl (last_two w _ _) Tryd.underlying45 rfl (st_sized _ _ _)) rfl ⟨rfl, below_two w _ _⟩
  · have hv : upV (some (l, p)) = .agg (cs3 ((l + 1 : Nat) : Int) ((p / 2 : Nat) : Int) true) := by simp only [upV, if_neg h]; rfl
    have y0 : ((l : Int) == 16) = false := by rw [beq_eq_false_iff_ne]; omega
    obtain ⟨l1, hl1⟩ : ∃ l1, l + 1 = l1 := ⟨_, rfl⟩
    obtain ⟨p1, hp1⟩ : ∃ p1, p / 2 = p1 := ⟨_, rfl⟩
    have x1 : (l : Int) + 1 = (l1 : Int) := by omega
    have x2 : (p : Int).tdiv 2 = (p1 : Int) := by rw [← hp1]; rfl
    have b1 : (l1 : Int) ≤ 17 := by omega
    have b2 : (p1 : Int) ≤ 65536 := by omega
    rw [hl1, hp1] at hv
    rw [hv]
    clear hv hl1 hp1 h hl hp
    go_enter Tryd.func32, Tryd.ntmps32
    go_wp2
    refine bodyPost_ret (v := .agg (cs3 (l1 : Int) (p1 : Int) true)) (results_cell_row (p := 2) (ty := 45) (by kernel_rfl) _ _ (w.heap.size + 1) 45 (cs3 (l1 : Int) (p1 : Int) true) (0, 0) _ rfl (last_two w _ _) Tryd.underlying45 rfl (st_sized _ _ _)) rfl ⟨rfl, below_two w _ _⟩

set_option maxHeartbeats 1000000 in
theorem rup_none (w : World) :
    Calls Tryd.prog 32 #[.agg #[.int .i64 0, .int .i64 0, .bool false]] w fun e w' => e = .returned (upV none) ∧ Below w.heap.size w w' := by
  go_enter Tryd.func32, Tryd.ntmps32
  go_wp2
  refine bodyPost_ret (v := .agg (cs3 0 0 false)) (results_cell_row (p := 2) (ty := 45) (by kernel_rfl) _ _ (w.heap.size + 1) 45 (cs3 0 0 false) (0, 0) _ rfl (last_two w _ _) Tryd.underlying45 rfl (st_sized _ _ _)) rfl ⟨rfl, below_two w _ _⟩

theorem rup_is (re im : Nat) (o : Option (Nat × Nat)) (w : World) (ho : Is re im o) :
    Calls Tryd.prog 32 #[ofF o] w fun e w' => e = .returned (upV o) ∧ Below w.heap.size w w' := by
  rcases o with _ | ⟨l, p⟩
  · exact rup_none w
  · exact rup_some l p w (Spot.lev ho) (Spot.small ho (by decide))

set_option maxHeartbeats 1000000 in
theorem rUp_is (re im x y : Nat) (o : Option (Nat × Nat)) (w : World) (ho : Is re im o) (hn : Ws (upF o) x y) :
    Calls Tryd.prog 15 #[.complex .f64 re im] w fun e w' => e = .returned (.complex .f64 x y) ∧ Below w.heap.size w w' := by
  have C1 := Lib.hid (of_is re im o w ho)
  have C2 := fun w => Lib.hid (rup_is re im o w ho)
  have hnm : Nm (upV o) x y := by have := upV_nm o; rwa [hn.x, hn.y] at this
  have C3 := Lib.hid hnm
  obtain ⟨v1, hv1⟩ : ∃ v, ofF o = v := ⟨_, rfl⟩
  obtain ⟨v2, hv2⟩ : ∃ v, upV o = v := ⟨_, rfl⟩
  rw [hv1] at C1
  simp only [hv1, hv2] at C2
  rw [hv2] at C3
  clear hnm hn ho hv1 hv2
  go_enter Tryd.func15, Tryd.ntmps15
  go_wp2_with fail
  refine C1.out.mono ?_
  rintro e' w1 ⟨rfl, hb1⟩
  go_wp2_with fail
  refine (C2 _).out.mono ?_
  rintro e' w2 ⟨rfl, hb2⟩
  have HB2 := Lib.hid (hb1.trans (hb2.mono hb1.size))
  clear hb1 hb2
  go_wp2_with fail
  refine (number_is C3.out _).mono ?_
  rintro e' w3 ⟨rfl, hb3⟩
  have HB3 := Lib.hid (HB2.out.trans (hb3.mono HB2.out.size))
  clear hb3
  go_wp2
  go_ret
  exact ⟨rfl, HB3.out⟩
end Go.Proofs.YtgpjlofdeidacaaDoor.Sp
