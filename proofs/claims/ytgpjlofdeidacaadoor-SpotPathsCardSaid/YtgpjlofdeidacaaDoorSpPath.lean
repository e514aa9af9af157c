/- Walks: Path. -/
import Derived.Test.YtgpjlofdeidacaaDoorSpRefA
import Derived.WalkMore
import Derived.ScopeJumps
import Derived.OwnWalk
namespace Go.Proofs.YtgpjlofdeidacaaDoor.Sp
set_option linter.all false
open Go.RowKit Fl

theorem wp_scope_round {P : Program} {a : Act} {w : World} {Q : Exit → Act → World → Prop} {c rest : Code} (l : Nat) (J : Act → World → Prop) (μ : Act → World → Nat) (hf : findLabel c l = some (Code.seq .skip rest))
    (pass : ∀ a w, J a w → rest.wp P (Exit.jump l (fun a' w' => J a' w' ∧ μ a' w' < μ a w) Q) a w)
    (first : (∀ a w, J a w → rest.wp P (Exit.jump l J Q) a w) → c.wp P (Exit.jump l J Q) a w) : (Code.scope c).wp P Q a w :=
  wp_scope_jumps l J μ hf (first fun a w h => Code.wp_mono (fun e a' w' h' => by
    cases e <;> first | exact h' | exact ⟨h'.1, h'.2.1⟩) (pass a w h)) fun a w h => wp_seq (wp_skip (pass a w h))

/-- the spots above a leaf, as values -/
def pathL (a k : Nat) : List Value := (List.range k).map fun i => .complex .f64 (fl (i + 1)) (fl (a / 2 ^ (i + 1)))
theorem pathL_succ (a k : Nat) : pathL a (k + 1) = pathL a k ++ [.complex .f64 (fl (k + 1)) (fl (a / 2 ^ (k + 1)))] := by
  simp [pathL, List.range_succ]
theorem pathL_len (a k : Nat) : (pathL a k).length = k := by simp [pathL]
theorem row_below {w w' : World} {base n : Nat} {v : Value} {xs : List Value} (h : w.ownsRow base 24 1 v n xs) (hb : Below w.heap.size w w') : w'.ownsRow base 24 1 v n xs := by
  refine h.kept (row := none) ⟨hb.os, hb.tape, hb.output, hb.size, fun i hi _ => hb.block i hi⟩ ?_
  cases hq : v.ownBlock with
  | none => exact .inl rfl
  | some g => exact .inr (by simp)
theorem below_row {w w1 w2 : World} {g n c : Nat} {xs : List Value} (h : Below w.heap.size w w1) (ho : w1.ownsRow w.heap.size 24 1 (.slice (some ⟨g, 0, none⟩) n c) n xs) (k : w1.grownBy w2 (some g)) : Below w.heap.size w w2 := by
  refine ⟨k.os.trans h.os, k.tape.trans h.tape, k.output.trans h.output, Nat.le_trans h.size k.size, fun i hi => (k.block i (Nat.lt_of_lt_of_le hi h.size) ?_).trans (h.block i hi)⟩
  intro e
  have := (ho.lt g rfl).1
  injection e with e
  omega
theorem below_of_grown {w w' : World} (h : w.grownBy w' none) : Below w.heap.size w w' := ⟨h.os, h.tape, h.output, h.size, fun i hi => h.block i hi (by simp)⟩
theorem one_cell (w : World) (u : Value) : ∀ j v, ([u] : List Value)[j]? = some v → (w.alloc (.cells #[u] 24)).cell? ((⟨w.heap.size, 0, none⟩ : Addr).add j) = some v := by
  intro j v h
  cases j with
  | zero =>
    simp at h
    subst h
    have ha : (⟨w.heap.size, 0, none⟩ : Addr).add 0 = ⟨w.heap.size, 0, none⟩ := by unfold Addr.add; split <;> simp_all
    have hg := heap_alloc_last w (.cells #[u] 24)
    rw [ha]
    simp only [World.cell?, hg]
    rfl
  | succ j => simp at h
theorem is_step (a k : Nat) (ha : a < 65536) (hk : k ≤ 16) : Is (fl k) (fl (a / 2 ^ k)) (some (k, a / 2 ^ k)) := by
  refine ⟨nz_fl _, nz_fl _, hk, ?_⟩
  rw [Nat.div_lt_iff_lt_mul (Nat.two_pow_pos k), ← Nat.pow_add, show 16 - k + k = 16 by omega]
  exact ha
theorem cInfo : (Tryd.prog.info? 24).map (fun i => (i.zero, i.size, i.bytes)) = some (some (.complex .f64 0 0), 1, 16) := by kernel_rfl

set_option maxHeartbeats 2000000 in
set_option maxRecDepth 100000 in
theorem path_is (a d : Nat) (w : World) (hd : d ≤ 16) (ha : a < 2 ^ d) :
    Calls Tryd.prog 25 #[.int .i64 (a : Int), .int .i64 (d : Int)] w fun e w' => ∃ g, e = .returned (.slice (some ⟨g, 0, none⟩) d d) ∧ w'.ownsRow w.heap.size 24 1 (.slice (some ⟨g, 0, none⟩) d d) d (pathL a d) ∧ Below w.heap.size w w' := by
  have ha16 : a < 65536 := Nat.lt_of_lt_of_le ha (pow_le d hd)
  have C1 := Lib.hid (isLeaf_is (a : Int) (d : Int) true w (by
    apply decide_eq_true
    refine ⟨by omega, by omega, by omega, ?_⟩
    rw [Int.toNat_natCast]; exact_mod_cast ha))
  obtain ⟨x0, hx0⟩ : ∃ x, fl 0 = x := ⟨_, rfl⟩
  obtain ⟨y0, hy0⟩ : ∃ y, fl (a / 2 ^ 0) = y := ⟨_, rfl⟩
  have H0 := Lib.hid (And.intro hx0 hy0)
  have C2 := fun w => Lib.hid (leaf_is (a : Int) x0 y0 w (by
    rw [leafF, if_pos ⟨by omega, by omega⟩]
    exact ⟨hx0, by rw [← hy0]; simp⟩))
  clear hx0 hy0
  obtain ⟨i, hi, hz, hs, hb⟩ := info_parts cInfo
  have HA := Lib.hid ha16
  clear ha ha16
  go_enter Tryd.func25, Tryd.ntmps25
  go_wp2
  obtain ⟨J, HJ⟩ : ∃ J : Act → World → Prop, Hid (∀ a' w', J a' w' ↔ ∃ (g k x y : Nat) (u7 u8 u9 u10 u11 u12 u13 u14 u15 u16 u17 u18 u19 u20 u21 u22 u23 u24 u25 : Value), a' = { tmps := #[.int .i64 (a : Int), .int .i64 (d : Int), undef, undef, .slice none 0 0, .slice (some ⟨g, 0, none⟩) k d, .complex .f64 x y, u7, u8, u9, u10, u11, u12, u13, u14, u15, u16, u17, u18, u19, u20, u21, u22, u23, u24, u25], defers := [] } ∧ k ≤ d ∧ Hid (fl k = x ∧ fl (a / 2 ^ k) = y) ∧ Hid (w'.ownsRow w.heap.size 24 1 (.slice (some ⟨g, 0, none⟩) k d) k (pathL a k)) ∧ Hid (Below w.heap.size w w')) := ⟨_, Lib.hid fun _ _ => Iff.rfl⟩
  refine wp_scope_round 0 J (fun a' _ => d - (match a'.tmps.getD 5 undef with | .slice _ n _ => n | _ => 0)) rfl ?pass ?first
  case first =>
    intro hpass
    go_wp2_with (first | (go_at_call 35; refine C1.out.mono ?_; rintro e' w' ⟨rfl, rfl⟩) | (at_make; skip; refine wpList_make_own _ rfl _ _ _ rfl w.heap.size 24 i (.complex .f64 0 0) 1 Tryd.underlying38 hi hz hs .i64 .i64 (d : Int) d rfl rfl rfl (by rw [hb]; omega) (by unfold maxLen; omega) (Nat.le_refl _) ?_; intro w1 hO1 hG1; have HO1 := Lib.hid hO1; have HB1 := Lib.hid (below_of_grown hG1); clear hO1 hG1) | (go_at_call 24; refine (C2 _).out.mono ?_; rintro e' w' ⟨rfl, rfl⟩) | go_in)
    go_step3
    rename_i hgo
    refine hgo _ _ (hpass _ _ ?_)
    refine (HJ.out _ _).2 ⟨_, 0, _, _, _, _, _, _, _, _, _, _, _, _, _, _, _, _, _, _, _, _, _, rfl, by omega, H0, HO1, HB1⟩
  case pass =>
    intro a' W hJ
    replace hJ := (HJ.out _ _).1 hJ
    obtain ⟨g, k, x, y, hJ⟩ := hJ
    iterate 19 (obtain ⟨_, hJ⟩ := hJ)
    obtain ⟨hfr, hk, HXY, HO, HW⟩ := hJ
    subst hfr
    by_cases hkd : k < d
    · have yk : (k : Int) < (d : Int) := by omega
      have hup := is_step a k HA.out (by omega)
      rw [HXY.out.1, HXY.out.2] at hup
      obtain ⟨x1, hx1⟩ : ∃ x, fl (k + 1) = x := ⟨_, rfl⟩
      obtain ⟨y1, hy1⟩ : ∃ y, fl (a / 2 ^ (k + 1)) = y := ⟨_, rfl⟩
      have C3 := fun w => Lib.hid (up_is x y x1 y1 _ w hup (by
        simp only [upF, if_neg (show ¬ k = 16 by omega)]
        exact ⟨hx1, by rw [← hy1, Nat.pow_succ, ← Nat.div_div_eq_div_mul]⟩))
      have HXY1 := Lib.hid (And.intro hx1 hy1)
      have HPL : Hid (pathL a k ++ [.complex .f64 x1 y1] = pathL a (k + 1)) := Lib.hid (by rw [pathL_succ, hx1, hy1])
      clear hup hx1 hy1
      go_wp2_with (first | (go_at_call 14; refine (C3 _).out.mono ?_; rintro e' w' ⟨rfl, rfl⟩) | (at_builtin; refine wpList_append_fits _ rfl (.tmp 21) (.tmp 23) 38 rfl w.heap.size 24 i 1 Tryd.underlying38 hi hs g k d (pathL a k) rfl (HO.out.alloc _) ⟨W.heap.size, 0, none⟩ 1 1 [.complex .f64 x1 y1] rfl rfl (one_cell _ _) (by intro u hu; simp at hu; subst hu; rfl) (by omega) ?_; intro w1 hO1 hG1; have HO1 := Lib.hid hO1; have HB1 := Lib.hid (below_row (HW.out.alloc HW.out.size _) (HO.out.alloc _) hG1); clear hO1 hG1) | go_in)
      go_step3
      refine ⟨rfl, (HJ.out _ _).2 ⟨g, k + 1, _, _, _, _, _, _, _, _, _, _, _, _, _, _, _, _, _, _, _, _, _, rfl, by omega, HXY1, Lib.hid (by rw [← HPL.out]; exact HO1.out), HB1⟩, ?_⟩
      show d - (k + 1) < d - k
      omega
    · obtain rfl : k = d := by omega
      go_wp2
      unfold Exit.jump
      dsimp only
      go_ret
      exact ⟨g, rfl, HO.out, HW.out⟩
end Go.Proofs.YtgpjlofdeidacaaDoor.Sp
