/- Walks: Secret. -/
import Derived.Test.YtkplkfokpniflaaDoorRaWalkK
namespace Go.Proofs.YtkplkfokpniflaaDoor.Ra
set_option linter.all false
open Go.RowKit Fl
open Wr (Txt Any New bcells gt)
open Sp (Is Ws Spot downF overF leafF)

theorem wp_scope_round {P : Program} {a : Act} {w : World} {Q : Exit → Act → World → Prop} {c rest : Code} (l : Nat) (J : Act → World → Prop) (μ : Act → World → Nat) (hf : findLabel c l = some (Code.seq .skip rest))
    (pass : ∀ a w, J a w → rest.wp P (Exit.jump l (fun a' w' => J a' w' ∧ μ a' w' < μ a w) Q) a w)
    (first : (∀ a w, J a w → rest.wp P (Exit.jump l J Q) a w) → c.wp P (Exit.jump l J Q) a w) : (Code.scope c).wp P Q a w :=
  wp_scope_jumps l J μ hf (first fun a w h => Code.wp_mono (fun e a' w' h' => by
    cases e <;> first | exact h' | exact ⟨h'.1, h'.2.1⟩) (pass a w h)) fun a w h => wp_seq (wp_skip (pass a w h))

/-- the level that a word says -/
def levOf : Value → Nat
  | .complex _ x _ => match (Ieee.double.read x).toInt .zero with | some i => i.toNat | none => 0
  | _ => 0
theorem levOf_fl (k y : Nat) (hk : k ≤ 16) : levOf (.complex .f64 (fl k) y) = k := by
  unfold levOf
  dsimp only
  rw [Fl.toInt k (by omega) .zero]
  simp
theorem alike0 (n : Nat) (h : n < 2 ^ 52) : FloatKind.f64.format.order (fl n) (fl n) = some .eq := by
  refine (order_nz (nz_fl n) (nz_fl n) (by omega) (by omega)).trans ?_
  rw [Nat.compare_eq_eq.2 rfl]
/-- over the leaf, from the top of a tree so deep -/
theorem top_over (deep leaf : Int) : ∃ (o : Option (Nat × Nat)) (b : Bool), Is (floatOfInt .f64 deep) 0 o ∧ overF leaf o = b ∧ (b = true ↔ (0 ≤ deep ∧ deep ≤ 16 ∧ 0 ≤ leaf ∧ leaf < 2 ^ deep.toNat)) := by
  by_cases h : 0 ≤ deep ∧ deep ≤ 16
  · obtain ⟨d, rfl⟩ := Int.eq_ofNat_of_zero_le h.1
    have hd : d ≤ 16 := by omega
    refine ⟨some (d, 0), _, ⟨.inl (by rw [show floatOfInt .f64 (d : Int) = fl d from nearest_int d]), .inl fl0.symm, hd, Nat.two_pow_pos _⟩, rfl, ?_⟩
    simp only [overF, decide_eq_true_eq, Int.toNat_natCast]
    have h16 : (2 : Nat) ^ d ≤ 65536 := Nat.pow_le_pow_right (by decide) hd
    constructor
    · rintro ⟨h1, h2, h3⟩
      obtain ⟨k, rfl⟩ := Int.eq_ofNat_of_zero_le h1
      refine ⟨h.1, h.2, h1, ?_⟩
      have e : (k : Int) / 2 ^ d = ((k / 2 ^ d : Nat) : Int) := by simp
      rw [e] at h3
      have h4 : k / 2 ^ d = 0 := Int.ofNat_inj.1 h3
      have h5 : k < 2 ^ d := by
        rcases Nat.div_eq_zero_iff.1 h4 with h | h
        · have := Nat.two_pow_pos d; omega
        · exact h
      exact_mod_cast h5
    · rintro ⟨-, -, h1, h2⟩
      obtain ⟨k, rfl⟩ := Int.eq_ofNat_of_zero_le h1
      have h5 : k < 2 ^ d := by exact_mod_cast h2
      refine ⟨h1, by omega, ?_⟩
      have e : (k : Int) / 2 ^ d = ((k / 2 ^ d : Nat) : Int) := by simp
      rw [e, Nat.div_eq_of_lt h5]
  · refine ⟨none, false, ⟨floatOfInt_lt _, by decide, fun l p hs => far_deep deep (by omega) l hs.lev hs.re⟩, rfl, ?_⟩
    simp
    intro h1 h2
    exact absurd ⟨h1, h2⟩ h

set_option maxHeartbeats 4000000 in
set_option maxRecDepth 100000 in
theorem secret_is (A : Option Addr) (e : List Nat) (n c : Nat) (deep leaf : Int) (w : World) (hT : Tabs w) (hA : Txt Any w A n c e) :
    Calls Tryd.prog 11 #[.slice A n c, .int .i64 deep, .int .i64 leaf] w (Wr.Told (secretR e deep leaf) w) := by
  have hl := hA.len
  obtain ⟨o, b, ho, hb, hiff⟩ := top_over deep leaf
  obtain ⟨X, hX⟩ : ∃ X, floatOfInt .f64 deep = X := ⟨_, rfl⟩
  have C1 := Lib.hid (Sp.over_is (floatOfInt .f64 deep) 0 leaf o b w ho hb)
  rw [hX] at C1
  have HA := Lib.hid hA; have HT := Lib.hid hT
  by_cases h32 : n = 32
  case neg =>
    have y : ((n : Int) != 32) = true := by rw [bne_iff_ne]; omega
    rw [show secretR e deep leaf = [] from if_neg (by rw [hl]; exact fun h => h32 h.1)]
    clear h32 hiff hl ho hb hA hT
    go_enter Tryd.func11, Tryd.ntmps11
    go_wp2
    refine wp_scope_round 0 (fun _ _ => False) (fun _ _ => 0) rfl (fun _ _ h => h.elim) ?_
    intro _
    go_wp2
    unfold Exit.jump
    dsimp only
    go_ret
    exact ⟨_, _, _, rfl, Txt.nil _ _, Below.refl _ _⟩
  have y : ((n : Int) != 32) = false := by rw [h32]; rfl
  cases b with
  | false =>
    rw [show secretR e deep leaf = [] from if_neg (fun h => by have := hiff.2 h.2; cases this)]
    clear h32 hiff hl ho hb hA hT
    go_enter Tryd.func11, Tryd.ntmps11
    go_wp2
    refine wp_scope_round 0 (fun _ _ => False) (fun _ _ => 0) rfl (fun _ _ h => h.elim) ?_
    intro _
    go_wp2_with (first | (go_at_call 22; refine C1.out.mono ?_; rintro e' w' ⟨rfl, rfl⟩) | go_in)
    unfold Exit.jump
    dsimp only
    go_ret
    exact ⟨_, _, _, rfl, Txt.nil _ _, Below.refl _ _⟩
  | true =>
  obtain ⟨d1, d2, d3, d4⟩ := hiff.1 rfl
  obtain ⟨d, rfl⟩ := Int.eq_ofNat_of_zero_le d1
  obtain ⟨lf, rfl⟩ := Int.eq_ofNat_of_zero_le d3
  have hd16 : d ≤ 16 := by omega
  have hlf : lf < 2 ^ d := by rw [Int.toNat_natCast] at d4; exact_mod_cast d4
  have hlf16 : lf < 65536 := Nat.lt_of_lt_of_le hlf (Nat.pow_le_pow_right (by decide) hd16)
  obtain ⟨r, hr⟩ : ∃ r, secretR e d lf = r := ⟨_, rfl⟩
  have HR : Hid (Unit → down lf d e = r) := Lib.hid fun _ => by
    rw [← hr]; unfold secretR
    rw [if_pos ⟨by rw [hl]; exact h32, d1, d2, d3, d4⟩, Int.toNat_natCast, Int.toNat_natCast]
  rw [hr]
  have hXd : fl d = X := by rw [← hX]; exact (nearest_int d).symm
  have HX := Lib.hid hXd
  have HLF := Lib.hid (And.intro hlf hlf16)
  obtain ⟨L0, hL0⟩ : ∃ x, fl 0 = x := ⟨_, rfl⟩
  obtain ⟨L1, hL1⟩ : ∃ x, fl lf = x := ⟨_, rfl⟩
  have HL := Lib.hid (And.intro hL0 hL1)
  have CL := fun w => Lib.hid (Sp.leaf_is (lf : Int) L0 L1 w (by rw [leafF, if_pos ⟨by omega, by omega⟩]; exact ⟨hL0, hL1⟩))
  subst h32
  clear hiff hl ho hb hA hT d1 d2 d3 d4 hr hXd hlf hlf16 hL0 hL1
  go_enter Tryd.func11, Tryd.ntmps11
  go_wp2
  obtain ⟨J, HJ⟩ : ∃ J : Act → World → Prop, Hid (∀ a' w', J a' w' ↔ ∃ (k x y : Nat) (C : Option Addr) (cC : Nat) (s : List Nat) (u9 u10 u24 u25 u26 u27 u28 u29 u30 u31 u32 u33 u34 u35 u36 u37 u38 u39 : Value), a' = { tmps := #[.slice A 32 c, .int .i64 (d : Int), .int .i64 (lf : Int), undef, undef, undef, .slice none 0 0, .complex .f64 x y, .slice C 32 cC, u9, u10, .int .i64 (d : Int), .float .f64 X, .complex .f64 X 0, .slice A 32 c, .int .i64 32, .bool false, .bool false, .complex .f64 X 0, .int .i64 (lf : Int), .bool true, .bool false, .bool false, .slice A 32 c, u24, u25, u26, u27, u28, u29, u30, u31, u32, u33, u34, u35, u36, u37, u38, u39], defers := [] } ∧ k ≤ 16 ∧ Hid (fl k = x ∧ fl (lf / 2 ^ k) = y) ∧ Hid (Unit → down lf k s = r) ∧ Hid (Txt (New w.heap.size w') w' C 32 cC s) ∧ Hid (Below w.heap.size w w')) := ⟨_, Lib.hid fun _ _ => Iff.rfl⟩
  refine wp_scope_round 0 J (fun a' _ => levOf (a'.tmps.getD 7 undef)) rfl ?pass ?first
  case first =>
    intro hpass
    go_wp2_with (first | (go_at_call 22; refine C1.out.mono ?_; rintro e' w' ⟨rfl, rfl⟩) | (go_at_call 21; refine (clone_any A e 32 c _ HA.out (by decide)).mono ?_; rintro e' w2 ⟨C, n2, c2, rfl, hC, hbC⟩; obtain rfl : n2 = 32 := (hC.len.symm.trans HA.out.len)) | go_in)
    go_step3
    rename_i hgo
    refine hgo _ _ (hpass _ _ ?_)
    refine (HJ.out _ _).2 ⟨d, X, 0, C, c2, e, _, _, _, _, _, _, _, _, _, _, _, _, _, _, _, _, _, _, rfl, hd16, Lib.hid ⟨HX.out, by rw [Nat.div_eq_of_lt HLF.out.1]; exact fl0⟩, HR, Lib.hid hC, Lib.hid hbC⟩
  case pass =>
    intro a' W hJ
    replace hJ := (HJ.out _ _).1 hJ
    obtain ⟨k, x, y, C, cC, s, hJ⟩ := hJ
    iterate 18 (obtain ⟨_, hJ⟩ := hJ)
    obtain ⟨hfr, hk, HXY, HD, HC, HW⟩ := hJ
    subst hfr
    cases k with
    | zero =>
      have o1 : FloatKind.f64.format.order x L0 = some .eq := by rw [← HL.out.1, ← HXY.out.1]; exact alike0 0 (by decide)
      have o2 : FloatKind.f64.format.order y L1 = some .eq := by
        rw [← HL.out.2, ← HXY.out.2, Nat.pow_zero, Nat.div_one]; exact alike0 lf (by have := HLF.out.2; omega)
      have HS : Hid (Unit → s = r) := Lib.hid fun _ => HD.out ()
      go_wp2_with (first | (go_at_call 23; refine (CL _).out.mono ?_; rintro e' w' ⟨rfl, rfl⟩) | go_in)
      unfold Exit.jump
      dsimp only
      go_ret
      exact ⟨_, _, _, rfl, by rw [← HS.out ()]; exact HC.out, HW.out⟩
    | succ l =>
      have o1 : FloatKind.f64.format.order x L0 = some .gt := by
        rw [← HL.out.1, ← HXY.out.1]
        exact (order_nz (nz_fl (l + 1)) (nz_fl 0) (by omega) (by decide)).trans (by rw [Nat.compare_eq_gt.2 (by omega)])
      have hI := is_step lf (l + 1) HLF.out.2 hk
      rw [HXY.out.1, HXY.out.2] at hI
      obtain ⟨x1, hx1⟩ : ∃ x, fl l = x := ⟨_, rfl⟩
      obtain ⟨y1, hy1⟩ : ∃ x, fl (lf / 2 ^ l) = x := ⟨_, rfl⟩
      have CT := fun w => Lib.hid (towards_is x y l lf x1 y1 w hI HLF.out.2 ⟨hx1, hy1⟩)
      have HXY1 := Lib.hid (And.intro hx1 hy1)
      have HD1 : Hid (Unit → down lf l (oneD s (bitAt lf l)) = r) := Lib.hid fun _ => HD.out ()
      obtain ⟨bb, hbb⟩ : ∃ b, bitAt lf l = b := ⟨_, rfl⟩
      rw [hbb] at HD1
      simp only [hbb] at CT
      obtain ⟨sd, hsd⟩ : ∃ sd, sideB bb = sd := ⟨_, rfl⟩
      simp only [hsd] at CT
      have CS := secretOf_is C s 32 cC bb W (HT.out.at HW.out) HC.out.any (by omega)
      rw [hsd] at CS
      have CSH := Lib.hid CS
      have HLV : Hid (levOf (.complex .f64 x1 y1) = l ∧ levOf (.complex .f64 x y) = l + 1) := Lib.hid ⟨by rw [← hx1]; exact levOf_fl l _ (by omega), by rw [← HXY.out.1]; exact levOf_fl (l + 1) _ hk⟩
      clear hI hx1 hy1 hbb hsd CS
      go_wp2_with (first | (go_at_call 23; refine (CL _).out.mono ?_; rintro e' w' ⟨rfl, rfl⟩) | (go_at_call 24; refine (CT _).out.mono ?_; rintro e' w' ⟨rfl, rfl⟩) | (go_at_call 25; refine CSH.out.mono ?_; rintro e' w2 ⟨C2, n2, c2, rfl, hC, hbC⟩; obtain rfl : n2 = 32 := (hC.len.symm.trans (oneD_len _ _))) | go_in)
      go_step3
      refine ⟨rfl, (HJ.out _ _).2 ⟨l, x1, y1, C2, c2, _, _, _, _, _, _, _, _, _, _, _, _, _, _, _, _, _, _, _, rfl, by omega, HXY1, HD1, Lib.hid (txt_low hC HW.out.size), Lib.hid (HW.out.trans (hbC.mono HW.out.size))⟩, ?_⟩
      show levOf (.complex .f64 x1 y1) < levOf (.complex .f64 x y)
      rw [HLV.out.1, HLV.out.2]
      omega
end Go.Proofs.YtkplkfokpniflaaDoor.Ra
