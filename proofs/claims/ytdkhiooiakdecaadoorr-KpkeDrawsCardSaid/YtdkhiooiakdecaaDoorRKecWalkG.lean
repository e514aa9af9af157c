/- Walks: Write, New, Read. -/
import Derived.Test.YtdkhiooiakdecaaDoorRKecWalkF
namespace Go.Proofs.YtdkhiooiakdecaaDoorR.Kec
set_option linter.all false
open Go.RowKit

/-- a slice of bytes that lies below block B, nil let in -/
def Rd (w : World) (B : Nat) (A : Option Addr) (bs : List Nat) : Prop :=
  (∀ j, gt bs j < 256) ∧ (0 < bs.length → ∃ ad : Addr, A = some ad ∧ ad.block < B ∧ ∀ j, j < bs.length → w.cell? (ad.add j) = some (.int .u8 (gt bs j : Nat)))
theorem Rd.keep {w w' : World} {B : Nat} {A : Option Addr} {bs : List Nat} (h : Rd w B A bs) (e : ∀ p : Addr, p.block < B → w'.cell? p = w.cell? p) : Rd w' B A bs := by
  refine ⟨h.1, fun hn => ?_⟩
  obtain ⟨ad, h1, h2, h3⟩ := h.2 hn
  refine ⟨ad, h1, h2, fun j hj => ?_⟩
  rw [e _ (by unfold Addr.add; split <;> exact h2)]
  exact h3 j hj
theorem Rd.grown {w w' : World} {B g : Nat} {A : Option Addr} {bs : List Nat} (h : Rd w B A bs) (hg : w.grownBy w' (some g)) (hB : B ≤ g) (hw : B ≤ w.heap.size) : Rd w' B A bs :=
  h.keep fun p hp => World.cell?_of_block (hg.block p.block (by omega) (by intro e; injection e; omega))
theorem Rd.below {w w' : World} {B : Nat} {A : Option Addr} {bs : List Nat} (h : Rd w B A bs) (hg : Below B w w') : Rd w' B A bs := h.keep fun _ hp => hg.cell hp
theorem Rd.more {w : World} {B B' : Nat} {A : Option Addr} {bs : List Nat} (h : Rd w B A bs) (hB : B ≤ B') : Rd w B' A bs := by
  refine ⟨h.1, fun hn => ?_⟩
  obtain ⟨ad, h1, h2, h3⟩ := h.2 hn
  exact ⟨ad, h1, by omega, h3⟩
theorem Rd.nil (w : World) (B : Nat) (A : Option Addr) : Rd w B A [] := ⟨fun _ => by simp [gt], fun h => absurd h (by simp)⟩

set_option maxHeartbeats 1000000 in
set_option maxRecDepth 100000 in
theorem write_gives (g r e : Nat) (s : Nat × List Nat) (v : Value) (w : World) (hS : Sp w g r e true s) :
    Calls Tryd.prog 38 #[.pointer (some ⟨g, 0, none⟩), v] w fun e' w' => e' = .returned (.tuple #[]) ∧ w = w' := by
  have c0 := hS.gives
  clear hS
  go_enter Tryd.func38, Tryd.ntmps38
  go_wp2
  refine bodyPost_ret (results_none rfl _ _ _) rfl ⟨rfl, rfl⟩

set_option maxHeartbeats 1000000 in
set_option maxRecDepth 100000 in
theorem write_any (g r e B : Nat) (s : Nat × List Nat) (A : Option Addr) (bs : List Nat) (n c : Nat) (w : World) (hS : Sp w g r e false s) (hG : Good r s) (hr : r ≤ 192) (hT : Tables w) (hb : 3 ≤ g)
    (hR : Rd w B A bs) (hB : B ≤ g) (hn : bs.length = n) (hm : n ≤ 9223372036854775807) :
    Calls Tryd.prog 38 #[.pointer (some ⟨g, 0, none⟩), .slice A n c] w fun e' w' => e' = .returned (.tuple #[]) ∧ Sp w' g r e false (takeAll r s bs) ∧ w.grownBy w' (some g) := by
  have hlt : g < w.heap.size := hS.2.lt
  have c0 := hS.gives
  have HS := Lib.hid hS; have HG := Lib.hid hG; have HT := Lib.hid hT; have HR := Lib.hid hR; have HN := Lib.hid hn; clear hS hG hT hR hn
  go_enter Tryd.func38, Tryd.ntmps38
  go_wp2
  clear c0
  go_loopw [12] (fun i W => ∃ k : Nat, k ≤ n ∧ i = .int .i64 k ∧ Hid (Sp W g r e false (takeAll r s (bs.take k))) ∧ Hid (w.grownBy W (some g))) (fun i _ => n - (intOf i).toNat)
  case atStart => exact ⟨0, by omega, rfl, HS, Lib.hid (World.grownBy.refl _ _)⟩
  case round =>
    obtain ⟨k, hk, rfl, HS1, HG1⟩ := hrel
    by_cases hkn : k < n
    · obtain ⟨hb256, hR1⟩ := HR.out.grown HG1.out hB (by omega)
      obtain ⟨ad, rfl, hadB, hcell⟩ := hR1 (by rw [HN.out]; omega)
      have c0 := hcell k (by rw [HN.out]; exact hkn)
      have hv := hb256 k
      clear hR1 hcell hb256
      have hgood := good_takeAll hr (bs.take k) HG.out
      have hsn := takeAll_snoc r s bs k (by rw [HN.out]; exact hkn)
      have hlen := HN.out
      generalize takeAll r s (bs.take k) = s1 at *
      obtain ⟨a, ws⟩ := s1
      have ha : a < r := hgood.1
      have HGD := Lib.hid hgood; have HSN := Lib.hid hsn; clear hgood hsn hlen
      have c1 := HS1.out.at_
      dsimp only at c1
      go_wp2
      refine wp_region_still_tail 8 (by kernel_rfl) (by kernel_rfl) ?_
      simp only [List.take_succ_cons, List.take_zero, List.drop_succ_cons, List.drop_zero]
      repeat still_step
      refine wpStill_nil ?_
      change wpList _ _ _ _ _ wr.drew
      go_wp2_with fail
      refine (add_any g 64 29 2 a (gt bs k) (spF r e a false) ws _ (by omega) hv HS1.out.drew HGD.out.2).mono ?_
      rintro e' w1 ⟨rfl, hS2, hG2⟩
      have HS2 : Hid (Sp w1 g r e false (a, lay ws a (gt bs k))) := Lib.hid hS2
      have HG2 := Lib.hid (only_then (only_drew HG1.out) hG2 (.inl rfl))
      have HT2 := Lib.hid (HT.out.grown HG2.out hb)
      clear hS2 hG2 c1 c0
      go_wp2_with fail
      refine (goOn_any g r e false (a, lay ws a (gt bs k)) _ HS2.out ⟨ha, ok_lay HGD.out.2 _ _ (by omega)⟩ hr HT2.out hb).mono ?_
      rintro e' w2 ⟨rfl, hS3, hG3⟩
      have HS3 := Lib.hid hS3; have HG3 := Lib.hid (only_then HG2.out hG3 (.inl rfl)); clear hS3 hG3
      go_wp2
      go_roundw
      case rel => exact ⟨k + 1, by omega, by go_num, Lib.hid (by rw [HSN.out]; exact HS3.out), HG3⟩
      case measure => simp [intOf]; omega
    · obtain rfl : k = n := by omega
      go_wp2
      go_end0
      refine ⟨rfl, ?_, HG1.out⟩
      have := HS1.out
      rwa [List.take_of_length_le (by rw [HN.out]; omega)] at this

set_option maxHeartbeats 1000000 in
set_option maxRecDepth 100000 in
theorem new_bad (r : Int) (e : Nat) (w : World) (h : r < 8 ∨ 192 < r ∨ r % 8 ≠ 0) :
    Calls Tryd.prog 37 #[.int .i64 r, .int .u8 e] w fun e' w' => e' = .returned (.pointer none) ∧ w = w' := by
  by_cases h1 : r < 8
  · go_enter Tryd.func37, Tryd.ntmps37
    go_wp2
    go_ret
    exact ⟨rfl, rfl⟩
  · by_cases h2 : 192 < r
    · go_enter Tryd.func37, Tryd.ntmps37
      go_wp2
      go_ret
      exact ⟨rfl, rfl⟩
    · have h3 : (r % 8 != 0) = true := by rw [bne_iff_ne]; omega
      go_enter Tryd.func37, Tryd.ntmps37
      go_wp2
      go_ret
      exact ⟨rfl, rfl⟩

theorem new_cells (r e i : Nat) (hi : i < 29) : (#[Value.int IntKind.i64 (r : Int), Value.int IntKind.u8 (e : Int), Value.int IntKind.u64 0, Value.int IntKind.u64 0, Value.int IntKind.u64 0, Value.int IntKind.u64 0, Value.int IntKind.u64 0, Value.int IntKind.u64 0, Value.int IntKind.u64 0, Value.int IntKind.u64 0, Value.int IntKind.u64 0, Value.int IntKind.u64 0, Value.int IntKind.u64 0, Value.int IntKind.u64 0, Value.int IntKind.u64 0, Value.int IntKind.u64 0, Value.int IntKind.u64 0, Value.int IntKind.u64 0, Value.int IntKind.u64 0, Value.int IntKind.u64 0, Value.int IntKind.u64 0, Value.int IntKind.u64 0, Value.int IntKind.u64 0, Value.int IntKind.u64 0, Value.int IntKind.u64 0, Value.int IntKind.u64 0, Value.int IntKind.u64 0, Value.int IntKind.i64 0, Value.bool false] : Array Value)[i]? = some (put (spF r e 0 false) 2 zeros i) := by
  match i, hi with
  | 0, _ | 1, _ | 2, _ | 3, _ | 4, _ | 5, _ | 6, _ | 7, _ | 8, _ | 9, _ | 10, _ | 11, _ | 12, _ | 13, _ | 14, _ | 15, _ | 16, _ | 17, _ | 18, _ | 19, _ | 20, _ | 21, _ | 22, _ | 23, _ | 24, _ | 25, _ | 26, _ | 27, _ | 28, _ => rfl
  | n + 29, h => omega

set_option maxHeartbeats 1000000 in
set_option maxRecDepth 100000 in
theorem new_any (r e : Nat) (w : World) (h1 : 8 ≤ r) (h2 : r ≤ 192) (h3 : r % 8 = 0) :
    Calls Tryd.prog 37 #[.int .i64 r, .int .u8 e] w fun e' w' => e' = .returned (.pointer (some ⟨w.heap.size, 0, none⟩)) ∧ Sp w' w.heap.size r e false start ∧ Below w.heap.size w w' ∧ w'.heap.size = w.heap.size + 1 := by
  have hd : ((r : Int) % 8 != 0) = false := by rw [bne_eq_false_iff_eq]; omega
  have h4 : ¬ ((r : Int) < 8) := by omega
  have h5 : ¬ (192 < (r : Int)) := by omega
  clear h3
  go_enter Tryd.func37, Tryd.ntmps37
  go_wp2
  go_ret
  refine ⟨rfl, ⟨by omega, World.rowIs_alloc w _ 64 (put (spF r e 0 false) 2 zeros) ?_⟩, (Below.refl _ _).alloc (Nat.le_refl _) _, by simp⟩
  intro i hi
  exact new_cells r e i hi

end Go.Proofs.YtdkhiooiakdecaaDoorR.Kec
