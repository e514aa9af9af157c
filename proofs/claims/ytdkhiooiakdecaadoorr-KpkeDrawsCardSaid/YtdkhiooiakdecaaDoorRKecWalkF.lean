/- Walks: goOn, turnToGiving, Write. -/
import Derived.Test.YtdkhiooiakdecaaDoorRKecWalkE
import Derived.Test.YtdkhiooiakdecaaDoorRKecSponge
namespace Go.Proofs.YtdkhiooiakdecaaDoorR.Kec
set_option linter.all false
open Go.RowKit

/-- the cells of a sponge but for its words -/
def spF (r e a : Nat) (gv : Bool) : Nat → Value
  | 0 => .int .i64 (r : Nat)
  | 1 => .int .u8 (e : Nat)
  | 27 => .int .i64 (a : Nat)
  | 28 => .bool gv
  | _ => undef
def Sp (w : World) (g r e : Nat) (gv : Bool) (s : Nat × List Nat) : Prop := St w g 64 29 (spF r e s.1 gv) 2 s.2
section
variable {w : World} {g r e : Nat} {gv : Bool} {s : Nat × List Nat}
theorem Sp.rate (h : Sp w g r e gv s) : w.cell? ⟨g, 0, none⟩ = some (.int .i64 (r : Nat)) := by
  rw [h.2.cell (by omega), put_out _ _ _ _ (by omega)]; rfl
theorem Sp.end_ (h : Sp w g r e gv s) : w.cell? ⟨g, 1, none⟩ = some (.int .u8 (e : Nat)) := by
  rw [h.2.cell (by omega), put_out _ _ _ _ (by omega)]; rfl
theorem Sp.at_ (h : Sp w g r e gv s) : w.cell? ⟨g, 27, none⟩ = some (.int .i64 (s.1 : Nat)) := by
  rw [h.2.cell (by omega), put_out _ _ _ _ (by omega)]; rfl
theorem Sp.gives (h : Sp w g r e gv s) : w.cell? ⟨g, 28, none⟩ = some (.bool gv) := by
  rw [h.2.cell (by omega), put_out _ _ _ _ (by omega)]; rfl
theorem Sp.frozen (h : Sp w g r e gv s) (i : Nat) : w.frozen? ⟨g, i, none⟩ = false := h.2.frozen i
theorem Sp.setAt (h : Sp w g r e gv s) (a : Nat) : Sp (w.setCell ⟨g, 27, none⟩ (.int .i64 (a : Nat))) g r e gv (a, s.2) := by
  refine ⟨h.1, (h.2.set 27 (.int .i64 (a : Nat))).congr fun j hj => ?_⟩
  by_cases e27 : j = 27
  · subst e27; rw [if_pos rfl, put_out _ _ _ _ (by omega)]; rfl
  · rw [if_neg e27]
    unfold put
    split
    · rfl
    · unfold spF
      split <;> first | rfl | omega | simp_all
theorem Sp.setGives (h : Sp w g r e gv s) (b : Bool) : Sp (w.setCell ⟨g, 28, none⟩ (.bool b)) g r e b s := by
  refine ⟨h.1, (h.2.set 28 (.bool b)).congr fun j hj => ?_⟩
  by_cases e27 : j = 28
  · subst e27; rw [if_pos rfl, put_out _ _ _ _ (by omega)]; rfl
  · rw [if_neg e27]
    unfold put
    split
    · rfl
    · unfold spF
      split <;> first | rfl | omega | simp_all
end

set_option maxHeartbeats 1000000 in
set_option maxRecDepth 100000 in
theorem goOn_any (g r e : Nat) (gv : Bool) (s : Nat × List Nat) (w : World) (hS : Sp w g r e gv s) (hG : Good r s) (hr : r ≤ 192) (hT : Tables w) (hb : 3 ≤ g) :
    Calls Tryd.prog 48 #[.pointer (some ⟨g, 0, none⟩)] w fun e' w' => e' = .returned (.tuple #[]) ∧ Sp w' g r e gv (stepAt r s) ∧ w.grownBy w' (some g) := by
  obtain ⟨a, ws⟩ := s
  have ha : a < r := hG.1
  have hO : Ok ws := hG.2
  have c0 := hS.rate
  have c1 := hS.at_
  have f1 := hS.frozen 27
  have HS := Lib.hid hS; have HO := Lib.hid hO; have HT := Lib.hid hT; clear hS hO hG hT
  dsimp only at c1
  by_cases h : a + 1 = r
  · have hd : ((a : Int) + 1 == (r : Int)) = true := by rw [beq_iff_eq]; omega
    have HH := Lib.hid h; clear h
    go_enter Tryd.func48, Tryd.ntmps48
    go_wp2
    go_quiet (fail)
    go_wp2_with fail
    have HS1 : Hid (Sp ((w.setCell ⟨g, 27, none⟩ (.int .i64 ((a : Int) + 1))).drewN nq) g r e gv (a + 1, ws)) := Lib.hid (HS.out.setAt (a + 1))
    have HG1 := Lib.hid (only_drewN (only_set (World.grownBy.refl w (some g)) (p := ⟨g, 27, none⟩) (.inl rfl) (.int .i64 ((a : Int) + 1))) nq)
    have HT1 := Lib.hid (HT.out.grown HG1.out hb)
    refine (change_any g 64 29 2 (spF r e (a + 1) gv) ws _ HS1.out HO.out HT1.out hb).mono ?_
    rintro e' w2 ⟨rfl, hS2, hG2⟩
    have hS2' : Sp w2 g r e gv (a + 1, change ws) := hS2
    have f2 := hS2'.frozen 27
    have c2 := hS2'.at_
    have HS2 := Lib.hid hS2'; have HG2 := Lib.hid (only_then HG1.out hG2 (.inl rfl)); clear hS2 hS2' hG2
    dsimp only at c2
    go_wp2
    go_end0
    refine ⟨rfl, ?_, only_set HG2.out (.inl rfl) _⟩
    rw [show stepAt r (a, ws) = (0, change ws) from if_pos HH.out]
    exact HS2.out.setAt 0
  · have hd : ((a : Int) + 1 == (r : Int)) = false := by rw [beq_eq_false_iff_ne]; omega
    have HH := Lib.hid h; clear h
    go_enter Tryd.func48, Tryd.ntmps48
    go_wp2
    go_quiet (fail)
    go_wp2
    go_end0
    refine ⟨rfl, ?_, only_drewN (only_set (World.grownBy.refl _ _) (.inl rfl) _) _⟩
    rw [show stepAt r (a, ws) = (a + 1, ws) from if_neg HH.out]
    exact HS.out.setAt (a + 1)

theorem Sp.lay {w w' : World} {g r e : Nat} {gv : Bool} {s : Nat × List Nat} {i v : Nat} (_h : Sp w g r e gv s) (h' : St w' g 64 29 (spF r e s.1 gv) 2 (Kec.lay s.2 i v)) : Sp w' g r e gv (s.1, Kec.lay s.2 i v) := h'

set_option maxHeartbeats 1000000 in
set_option maxRecDepth 100000 in
theorem turn_any (g r e : Nat) (s : Nat × List Nat) (w : World) (hS : Sp w g r e false s) (hG : Good r s) (hr0 : 0 < r) (hr : r ≤ 192) (he : e < 256) (hT : Tables w) (hb : 3 ≤ g) :
    Calls Tryd.prog 50 #[.pointer (some ⟨g, 0, none⟩)] w fun e' w' => e' = .returned (.tuple #[]) ∧ Sp w' g r e true (turned r e s) ∧ w.grownBy w' (some g) := by
  obtain ⟨a, ws⟩ := s
  have ha : a < r := hG.1
  have hO : Ok ws := hG.2
  have c0 := hS.rate
  have c1 := hS.at_
  have c2 := hS.end_
  dsimp only at c1
  have HS := Lib.hid hS; have HO := Lib.hid hO; have HT := Lib.hid hT; clear hS hO hG hT
  go_enter Tryd.func50, Tryd.ntmps50
  go_wp2
  refine wp_region_still_tail 11 (by kernel_rfl) (by kernel_rfl) ?_
  simp only [List.take_succ_cons, List.take_zero, List.drop_succ_cons, List.drop_zero]
  repeat still_step
  refine wpStill_nil ?_
  change wpList _ _ _ _ _ w.drew
  go_wp2_with fail
  refine (add_any g 64 29 2 a e (spF r e a false) ws _ (by omega) he HS.out.drew HO.out).mono ?_
  rintro e' w1 ⟨rfl, hS1, hG1⟩
  have HS1 : Hid (Sp w1 g r e false (a, lay ws a e)) := Lib.hid hS1
  have HG1 := Lib.hid (only_then (only_drew (World.grownBy.refl w (some g))) hG1 (.inl rfl))
  have HO1 := Lib.hid (ok_lay HO.out a e (by omega))
  clear hS1 hG1 c0 c1 c2
  have c0 := HS1.out.rate
  go_wp2
  refine wp_region_still_tail 8 (by kernel_rfl) (by kernel_rfl) ?_
  simp only [List.take_succ_cons, List.take_zero, List.drop_succ_cons, List.drop_zero]
  repeat still_step
  refine wpStill_nil ?_
  change wpList _ _ _ _ _ w1.drew
  go_wp2_with fail
  rw [show ((r : Int) - 1) = ((r - 1 : Nat) : Int) by omega]
  refine (add_any g 64 29 2 (r - 1) 128 (spF r e a false) (lay ws a e) _ (by omega) (by omega) HS1.out.drew HO1.out).mono ?_
  rintro e' w2 ⟨rfl, hS2, hG2⟩
  have HS2 : Hid (Sp w2 g r e false (a, lay (lay ws a e) (r - 1) 128)) := Lib.hid hS2
  have HG2 := Lib.hid (only_then (only_drew HG1.out) hG2 (.inl rfl))
  have HO2 := Lib.hid (ok_lay HO1.out (r - 1) 128 (by omega))
  have HT2 := Lib.hid (HT.out.grown HG2.out hb)
  clear hS2 hG2 c0
  go_wp2_with fail
  refine (change_any g 64 29 2 (spF r e a false) (lay (lay ws a e) (r - 1) 128) _ HS2.out HO2.out HT2.out hb).mono ?_
  rintro e' w3 ⟨rfl, hS3, hG3⟩
  have hS3' : Sp w3 g r e false (a, change (lay (lay ws a e) (r - 1) 128)) := hS3
  have f0 := hS3'.frozen 27
  have f1 := hS3'.frozen 28
  have c0 := hS3'.at_
  have c1 := hS3'.gives
  dsimp only at c0
  have HS3 := Lib.hid hS3'; have HG3 := Lib.hid (only_then HG2.out hG3 (.inl rfl)); clear hS3 hS3' hG3
  go_wp2
  go_end0
  exact ⟨rfl, (HS3.out.setAt 0).setGives true, only_set (only_set HG3.out (.inl rfl) _) (.inl rfl) _⟩

end Go.Proofs.YtdkhiooiakdecaaDoorR.Kec
