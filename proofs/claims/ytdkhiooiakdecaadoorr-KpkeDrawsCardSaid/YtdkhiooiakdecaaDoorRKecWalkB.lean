/- Walks: spreadColumns. -/
import Derived.Test.YtdkhiooiakdecaaDoorRKecWalkA
namespace Go.Proofs.YtdkhiooiakdecaaDoorR.Kec
set_option linter.all false
open Go.RowKit

theorem col_bits {ws : List Nat} (h : Ok ws) (x : Nat) :
    bits .xor .u64 (bits .xor .u64 (bits .xor .u64 (bits .xor .u64 ((gt ws x : Nat) : Int) ((gt ws (x + 5) : Nat) : Int)) ((gt ws (x + 10) : Nat) : Int)) ((gt ws (x + 15) : Nat) : Int)) ((gt ws (x + 20) : Nat) : Int) = ((col ws x : Nat) : Int) := by
  rw [u64_xor_nat _ _ (h.2 _) (h.2 _), u64_xor_nat _ _ (xor_lt (h.2 _) (h.2 _)) (h.2 _), u64_xor_nat _ _ (xor_lt (xor_lt (h.2 _) (h.2 _)) (h.2 _)) (h.2 _), u64_xor_nat _ _ (xor_lt (xor_lt (xor_lt (h.2 _) (h.2 _)) (h.2 _)) (h.2 _)) (h.2 _)]
  rfl
theorem dcol_bits {ws : List Nat} (h : Ok ws) (x : Nat) : bits .xor .u64 ((col ws ((x + 4) % 5) : Nat) : Int) ((rotl (col ws ((x + 1) % 5)) 1 : Nat) : Int) = ((dcol ws x : Nat) : Int) := by
  rw [u64_xor_nat _ _ (col_lt h _) (rotl_lt _ _ (col_lt h _))]; rfl
def mix (a d : Nat) : Nat := a ^^^ d
theorem mix_bits {a d : Nat} (h : a < 18446744073709551616) (h' : d < 18446744073709551616) : bits .xor .u64 (a : Int) (d : Int) = ((mix a d : Nat) : Int) := by
  rw [u64_xor_nat _ _ h h']; rfl

theorem rot_same (x k : Nat) (w : World) (hx : x < 18446744073709551616) (hk : k < 64) :
    Calls Tryd.prog 68 #[.int .u64 x, .int .i64 k] w fun e w' => e = .returned (.int .u64 (rotl x k : Nat)) ∧ w' = w :=
  (rot_any x k w hx hk).mono fun _ _ ⟨h, h'⟩ => ⟨h, h'.symm⟩
theorem rot_one (x : Nat) (w : World) (hx : x < 18446744073709551616) :
    Calls Tryd.prog 68 #[.int .u64 x, .int .i64 1] w fun e w' => e = .returned (.int .u64 (rotl x 1 : Nat)) ∧ w' = w :=
  rot_same x 1 w hx (by omega)
def colRow (ws : List Nat) (k : Nat) : Nat → Value := fun x => if x < k then .int .u64 (col ws x : Nat) else .int .u64 0

abbrev five (w : World) (b o j : Nat) (v0 v1 v2 v3 v4 : Value) : World :=
  ((((w.setCell ⟨b, o + j, none⟩ v0).setCell ⟨b, o + (j + 5), none⟩ v1).setCell ⟨b, o + (j + 10), none⟩ v2).setCell ⟨b, o + (j + 15), none⟩ v3).setCell ⟨b, o + (j + 20), none⟩ v4
theorem St.five {w : World} {b t n o j : Nat} {f : Nat → Value} {ws : List Nat} (h : St w b t n f o (spreadTo ws j)) (hj : j < 5) :
    St (Kec.five w b o j (.int .u64 (mix (gt ws j) (dcol ws j) : Nat)) (.int .u64 (mix (gt ws (j + 5)) (dcol ws j) : Nat)) (.int .u64 (mix (gt ws (j + 10)) (dcol ws j) : Nat)) (.int .u64 (mix (gt ws (j + 15)) (dcol ws j) : Nat)) (.int .u64 (mix (gt ws (j + 20)) (dcol ws j) : Nat))) b t n f o (spreadTo ws (j + 1)) := by
  have hl : (spreadTo ws j).length = 25 := tab_len _
  rw [← spreadTo_succ j hj]
  exact ((((h.set hl j _ (by omega)).set (by simp [hl]) (j + 5) _ (by omega)).set (by simp [hl]) (j + 10) _ (by omega)).set (by simp [hl]) (j + 15) _ (by omega)).set (by simp [hl]) (j + 20) _ (by omega)
theorem five_far {w : World} {g t n : Nat} {f : Nat → Value} (h : w.rowIs g t n f) {b : Nat} (hb : g ≠ b) (o j : Nat) (v0 v1 v2 v3 v4 : Value) : (five w b o j v0 v1 v2 v3 v4).rowIs g t n f :=
  ((((h.setOther (a := ⟨b, o + j, none⟩) hb v0).setOther (a := ⟨b, o + (j + 5), none⟩) hb v1).setOther (a := ⟨b, o + (j + 10), none⟩) hb v2).setOther (a := ⟨b, o + (j + 15), none⟩) hb v3).setOther (a := ⟨b, o + (j + 20), none⟩) hb v4
theorem five_only {a w : World} {b : Nat} (h : a.grownBy w (some b)) (o j : Nat) (v0 v1 v2 v3 v4 : Value) : a.grownBy (five w b o j v0 v1 v2 v3 v4) (some b) :=
  only_set (only_set (only_set (only_set (only_set h (.inl rfl) _) (.inl rfl) _) (.inl rfl) _) (.inl rfl) _) (.inl rfl) _

set_option maxHeartbeats 2000000 in
set_option maxRecDepth 100000 in
theorem spread_any (b t n o : Nat) (f : Nat → Value) (ws : List Nat) (w : World) (hS : St w b t n f o ws) (hO : Ok ws) :
    Calls Tryd.prog 62 #[.pointer (some ⟨b, o, none⟩)] w fun e w' => e = .returned (.tuple #[]) ∧ St w' b t n f o (spread ws) ∧ w.grownBy w' (some b) := by
  have hlt := hS.lt
  have HS := Lib.hid hS; clear hS
  have HO := Lib.hid hO; clear hO
  go_enter Tryd.func62, Tryd.ntmps62
  go_wp2
  go_loopw [6] (fun i W => ∃ k : Nat, k ≤ 5 ∧ i = .int .i64 k ∧ Hid (St W b t n f o ws) ∧ Hid (W.rowIs w.heap.size 71 5 (colRow ws k)) ∧ Hid (w.grownBy W (some b))) (fun i _ => 5 - (intOf i).toNat)
  case atStart =>
    refine ⟨0, by omega, rfl, Lib.hid (HS.out.alloc _), Lib.hid ?_, Lib.hid (World.grownBy_alloc _ _ _)⟩
    refine (World.rowIs_alloc w _ 71 (colRow ws 0) ?_)
    intro i hi
    have : i < 5 := hi
    unfold colRow
    rw [if_neg (by omega)]
    match i, this with
    | 0, _ | 1, _ | 2, _ | 3, _ | 4, _ => rfl
  case round =>
    obtain ⟨k, hk, rfl, HS1, HR1, HG1⟩ := hrel
    by_cases hlt5 : k < 5
    · have c0 := HS1.out.cell k (by omega)
      have c1 := HS1.out.cell (k + 5) (by omega)
      have c2 := HS1.out.cell (k + 10) (by omega)
      have c3 := HS1.out.cell (k + 15) (by omega)
      have c4 := HS1.out.cell (k + 20) (by omega)
      have d0 := HR1.out.cell (i := k) hlt5
      have d1 := HR1.out.frozen k
      have hb := col_bits HO.out k
      go_wp2
      go_region
      go_wp2
      go_roundw
      case rel =>
        refine ⟨k + 1, by omega, by go_num, Lib.hid (HS1.out.far (by show b ≠ w.heap.size; omega) _).drew, Lib.hid ?_, Lib.hid (only_drew (only_set HG1.out (.inr (Nat.le_refl _)) _))⟩
        refine ((HR1.out.set k (.int .u64 (col ws k : Nat))).drew.congr ?_)
        intro i _
        unfold colRow
        by_cases e : i = k
        · subst e; simp
        · by_cases h : i < k
          · simp [e, h, show i < k + 1 by omega]
          · simp [e, h, show ¬ i < k + 1 by omega]
      case measure => simp [intOf]; omega
    · obtain rfl : k = 5 := by omega
      go_wp2
      go_loopw [45] (fun i W => ∃ j : Nat, j ≤ 5 ∧ i = .int .i64 j ∧ Hid (St W b t n f o (spreadTo ws j)) ∧ Hid (W.rowIs w.heap.size 71 5 (colRow ws 5)) ∧ Hid (w.grownBy W (some b))) (fun i _ => 5 - (intOf i).toNat)
      case atStart => exact ⟨0, by omega, rfl, Lib.hid (by rw [spreadTo_zero HO.out]; exact HS1.out), HR1, HG1⟩
      case round =>
        obtain ⟨j, hj, rfl, HS2, HR2, HG2⟩ := hrel
        by_cases hlt5 : j < 5
        · have c0 := HS2.out.cell j (by omega)
          have c1 := HS2.out.cell (j + 5) (by omega)
          have c2 := HS2.out.cell (j + 10) (by omega)
          have c3 := HS2.out.cell (j + 15) (by omega)
          have c4 := HS2.out.cell (j + 20) (by omega)
          rw [gt_spreadTo _ _ (by omega) (by omega)] at c0 c1 c2 c3 c4
          have f0 := HS2.out.frozen (o + j)
          have f1 := HS2.out.frozen (o + (j + 5))
          have f2 := HS2.out.frozen (o + (j + 10))
          have f3 := HS2.out.frozen (o + (j + 15))
          have f4 := HS2.out.frozen (o + (j + 20))
          have d0 := HR2.out.cell (i := (j + 4) % 5) (by omega)
          have d1 := HR2.out.cell (i := (j + 1) % 5) (by omega)
          rw [colRow, if_pos (by omega)] at d0 d1
          have hb := dcol_bits HO.out j
          have m0 := mix_bits (HO.out.2 j) (dcol_lt HO.out j)
          have m1 := mix_bits (HO.out.2 (j + 5)) (dcol_lt HO.out j)
          have m2 := mix_bits (HO.out.2 (j + 10)) (dcol_lt HO.out j)
          have m3 := mix_bits (HO.out.2 (j + 15)) (dcol_lt HO.out j)
          have m4 := mix_bits (HO.out.2 (j + 20)) (dcol_lt HO.out j)
          go_wp2
          go_quiet ((go_at_call 68; exact Calls.quiet_of_same (rot_one _ _ (col_lt HO.out _))))
          go_wp2
          go_region
          go_wp2
          go_region
          go_wp2
          go_region
          go_wp2
          go_region
          go_wp2
          go_region
          go_wp2
          go_roundw
          case rel =>
            exact ⟨j + 1, by omega, by go_num, Lib.hid ((HS2.out.drewN (nq + 1)).five hlt5).drew.drew.drew.drew, Lib.hid (five_far (rowIs_drewN HR2.out (nq + 1)) (Nat.ne_of_gt hlt) o j _ _ _ _ _).drew.drew.drew.drew,
              Lib.hid (only_drew (only_drew (only_drew (only_drew (five_only (only_drewN HG2.out (nq + 1)) o j _ _ _ _ _)))))⟩
          case measure => simp [intOf]; omega
        · obtain rfl : j = 5 := by omega
          go_wp2
          go_end0
          exact ⟨rfl, by rw [← spreadTo_five]; exact HS2.out, HG2.out⟩

end Go.Proofs.YtdkhiooiakdecaaDoorR.Kec
