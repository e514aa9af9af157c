/- Walks: joinRows. -/
import Derived.Test.YtdkhiooiakdecaaDoorRKecWalkC
namespace Go.Proofs.YtdkhiooiakdecaaDoorR.Kec
set_option linter.all false
open Go.RowKit

theorem join_bits {m : List Nat} (h : Ok m) (i x y z : Nat) (hx : i = x) (hy : i / 5 * 5 + (i % 5 + 1) % 5 = y) (hz : i / 5 * 5 + (i % 5 + 2) % 5 = z) :
    bits .xor .u64 ((gt m x : Nat) : Int) (bits .and .u64 (bits .xor .u64 (if IntKind.u64.signed = true then -1 else IntKind.u64.max) ((gt m y : Nat) : Int)) ((gt m z : Nat) : Int)) = ((joinw m i : Nat) : Int) := by
  have e : (if IntKind.u64.signed = true then -1 else IntKind.u64.max) = (18446744073709551615 : Int) := by decide
  rw [e, u64_not _ (h.2 _), u64_and_nat _ _ (notw_lt _) (h.2 _), u64_xor_nat _ _ (h.2 _) (and_lt (h.2 _))]
  unfold joinw
  rw [hy, hz, hx]

abbrev fiveRow (w : World) (b o a : Nat) (v0 v1 v2 v3 v4 : Value) : World :=
  ((((w.setCell ⟨b, o + a, none⟩ v0).setCell ⟨b, o + (a + 1), none⟩ v1).setCell ⟨b, o + (a + 2), none⟩ v2).setCell ⟨b, o + (a + 3), none⟩ v3).setCell ⟨b, o + (a + 4), none⟩ v4
theorem St.fiveRow {w : World} {b t n o a : Nat} {f : Nat → Value} {ws m : List Nat} (h : St w b t n f o (joinTo ws m a)) (ha : a ≤ 20) :
    St (Kec.fiveRow w b o a (.int .u64 (joinw m a : Nat)) (.int .u64 (joinw m (a + 1) : Nat)) (.int .u64 (joinw m (a + 2) : Nat)) (.int .u64 (joinw m (a + 3) : Nat)) (.int .u64 (joinw m (a + 4) : Nat))) b t n f o (joinTo ws m (a + 5)) := by
  have hl : ∀ k, (joinTo ws m k).length = 25 := fun k => tab_len _
  have h1 := h.set (hl _) a (joinw m a) (by omega)
  rw [joinTo_succ _ _ _ (by omega)] at h1
  have h2 := h1.set (hl _) (a + 1) (joinw m (a + 1)) (by omega)
  rw [joinTo_succ _ _ _ (by omega)] at h2
  have h3 := h2.set (hl _) (a + 2) (joinw m (a + 2)) (by omega)
  rw [joinTo_succ _ _ _ (by omega)] at h3
  have h4 := h3.set (hl _) (a + 3) (joinw m (a + 3)) (by omega)
  rw [joinTo_succ _ _ _ (by omega)] at h4
  have h5 := h4.set (hl _) (a + 4) (joinw m (a + 4)) (by omega)
  rw [joinTo_succ _ _ _ (by omega)] at h5
  exact h5
theorem fiveRow_far {w : World} {g t n : Nat} {f : Nat → Value} (h : w.rowIs g t n f) {b : Nat} (hb : g ≠ b) (o j : Nat) (v0 v1 v2 v3 v4 : Value) : (fiveRow w b o j v0 v1 v2 v3 v4).rowIs g t n f :=
  ((((h.setOther (a := ⟨b, o + j, none⟩) hb v0).setOther (a := ⟨b, o + (j + 1), none⟩) hb v1).setOther (a := ⟨b, o + (j + 2), none⟩) hb v2).setOther (a := ⟨b, o + (j + 3), none⟩) hb v3).setOther (a := ⟨b, o + (j + 4), none⟩) hb v4
theorem fiveRow_only {a w : World} {b : Nat} (h : a.grownBy w (some b)) (o j : Nat) (v0 v1 v2 v3 v4 : Value) : a.grownBy (fiveRow w b o j v0 v1 v2 v3 v4) (some b) :=
  only_set (only_set (only_set (only_set (only_set h (.inl rfl) _) (.inl rfl) _) (.inl rfl) _) (.inl rfl) _) (.inl rfl) _

set_option maxHeartbeats 2000000 in
set_option maxRecDepth 100000 in
theorem join_any (b t n o g : Nat) (f : Nat → Value) (ws m : List Nat) (w : World) (hS : St w b t n f o ws) (hO : Ok ws) (hR : w.rowIs g 62 25 (wordRow m)) (hM : Ok m) (hne : g ≠ b) :
    Calls Tryd.prog 64 #[.pointer (some ⟨b, o, none⟩), .pointer (some ⟨g, 0, none⟩)] w fun e w' => e = .returned (.tuple #[]) ∧ St w' b t n f o (join m) ∧ w.grownBy w' (some b) := by
  have HS := Lib.hid hS; clear hS
  have HO := Lib.hid hO; clear hO
  have HR := Lib.hid hR; clear hR
  have HM := Lib.hid hM; clear hM
  go_enter Tryd.func64, Tryd.ntmps64
  go_wp2
  go_loopw [4] (fun i W => ∃ a : Nat, a ≤ 25 ∧ i = .int .i64 a ∧ Hid (a % 5 = 0) ∧ Hid (St W b t n f o (joinTo ws m a)) ∧ Hid (W.rowIs g 62 25 (wordRow m)) ∧ Hid (w.grownBy W (some b))) (fun i _ => 25 - (intOf i).toNat)
  case atStart => exact ⟨0, by omega, rfl, Lib.hid rfl, Lib.hid (by rw [joinTo_zero HO.out]; exact HS.out), HR, Lib.hid (World.grownBy.refl _ _)⟩
  case round =>
    obtain ⟨a, ha, rfl, H5, HS1, HR1, HG1⟩ := hrel
    by_cases hlt : a < 25
    · have h20 : a ≤ 20 := by have := H5.out; omega
      have c0 := HR1.out.cell (i := a) (by omega)
      have c1 := HR1.out.cell (i := a + 1) (by omega)
      have c2 := HR1.out.cell (i := a + 2) (by omega)
      have c3 := HR1.out.cell (i := a + 3) (by omega)
      have c4 := HR1.out.cell (i := a + 4) (by omega)
      unfold wordRow at c0 c1 c2 c3 c4
      have d0 := HS1.out.cell a (by omega)
      have d1 := HS1.out.cell (a + 1) (by omega)
      have d2 := HS1.out.cell (a + 2) (by omega)
      have d3 := HS1.out.cell (a + 3) (by omega)
      have d4 := HS1.out.cell (a + 4) (by omega)
      have f0 := HS1.out.frozen (o + a)
      have f1 := HS1.out.frozen (o + (a + 1))
      have f2 := HS1.out.frozen (o + (a + 2))
      have f3 := HS1.out.frozen (o + (a + 3))
      have f4 := HS1.out.frozen (o + (a + 4))
      have h5 := H5.out
      have j0 := join_bits HM.out a a (a + 1) (a + 2) (by omega) (by omega) (by omega)
      have j1 := join_bits HM.out (a + 1) (a + 1) (a + 2) (a + 3) (by omega) (by omega) (by omega)
      have j2 := join_bits HM.out (a + 2) (a + 2) (a + 3) (a + 4) (by omega) (by omega) (by omega)
      have j3 := join_bits HM.out (a + 3) (a + 3) (a + 4) a (by omega) (by omega) (by omega)
      have j4 := join_bits HM.out (a + 4) (a + 4) a (a + 1) (by omega) (by omega) (by omega)
      clear h5
      go_wp2
      go_quiet (fail)
      go_wp2
      go_roundw
      case rel =>
        exact ⟨a + 5, by omega, by go_num, Lib.hid (by have := H5.out; omega), Lib.hid ((HS1.out.drewN nq).fiveRow h20), Lib.hid (fiveRow_far (rowIs_drewN HR1.out nq) hne o a _ _ _ _ _), Lib.hid (fiveRow_only (only_drewN HG1.out nq) o a _ _ _ _ _)⟩
      case measure => simp [intOf]; omega
    · obtain rfl : a = 25 := by omega
      go_wp2
      go_end0
      exact ⟨rfl, by rw [← joinTo_all ws]; exact HS1.out, HG1.out⟩

end Go.Proofs.YtdkhiooiakdecaaDoorR.Kec
