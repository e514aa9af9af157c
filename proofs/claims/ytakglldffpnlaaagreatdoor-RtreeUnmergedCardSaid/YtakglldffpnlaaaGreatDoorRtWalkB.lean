/- Walks: isThere, mayBeUnmerged, isRight, Right, hasSpot. -/
import Derived.Test.YtakglldffpnlaaaGreatDoorRtMem
import Derived.Test.YtakglldffpnlaaaGreatDoorSpM3
namespace Go.Proofs.YtakglldffpnlaaaGreatDoor.Rt
set_option linter.all false
open Go.RowKit
open Wr (Txt Any New)

theorem pow_eq (d : Nat) : (2 : Int) ^ d = ((2 ^ d : Nat) : Int) := by simp
theorem pow_bd (d : Nat) (h : d ≤ 16) : 1 ≤ 2 ^ d ∧ 2 ^ d ≤ 65536 := ⟨Nat.two_pow_pos d, Nat.pow_le_pow_right (by decide) (show d ≤ 16 from h)⟩
set_option maxHeartbeats 1000000 in
theorem isThere_is (d : Nat) (A : Option Addr) (n c : Nat) (ns : List Nd) (i : Int) (b : Bool) (w : World) (hd : d ≤ 16) (hn : n = 2 ^ (d + 1) - 1) (hN : Nodes Any Any w A n c ns) (hb : b = true ↔ There ns d i) :
    Calls Tryz.prog 38 #[.agg #[.int .i64 d, .slice A n c], .int .i64 i] w fun e w' => e = .returned (.bool b) ∧ Below w.heap.size w w' := by
  have H := Lib.hid (leaves_is d · hd)
  obtain ⟨m1, m2⟩ := pow_bd d hd
  have e2 : 2 ^ (d + 1) = 2 * 2 ^ d := by rw [Nat.pow_succ]; omega
  unfold There at hb
  rw [pow_eq] at hb
  obtain ⟨m, hm⟩ : ∃ m, 2 ^ d = m := ⟨_, rfl⟩
  rw [hm] at H m1 m2 e2 hb
  rw [e2] at hn
  clear e2 hm
  by_cases h0 : 0 ≤ i
  · obtain ⟨k, rfl⟩ := Int.eq_ofNat_of_zero_le h0
    have y0 : (k : Int) ≥ 0 := by omega
    by_cases h1 : k < m
    · have y1 : (k : Int) < (m : Int) := by omega
      obtain ⟨ad, rfl⟩ := hN.some (by omega)
      obtain ⟨j, hj⟩ : ∃ j, j = 2 * k := ⟨_, rfl⟩
      have x1 : 2 * (k : Int) = (j : Int) := by omega
      obtain ⟨q, q1, q2⟩ := hN.at j (by omega)
      have hlt : ad.block < w.heap.size := (hN.2.2.2.2.1 ad rfl).2 (by omega)
      have hj' : (j : Int) < (n : Int) := by omega
      have hbb : (q.k != 0) = b := by
        rw [Bool.eq_iff_iff, hb, q2.k, hj, Int.toNat_natCast]
        simp
        omega
      have q0 := (q1.of_block (w' := w.alloc (.cells #[.int .i64 d, .slice (some ad) n c] 24)) (Below.heap_alloc _ _ _ (by rw [Wr.add_block]; exact hlt))).cells.1
      clear hb q1 q2 hN hlt hj hn h1 h0
      go_enter Tryz.func38, Tryz.ntmps38
      go_wp2_with (first | (go_at_call 31; refine (H.out _).mono ?_; rintro e' w' ⟨rfl, rfl⟩) | go_in)
      go_ret
      exact ⟨by rw [← hbb]; rfl, below_one _ _⟩
    · have y1 : ¬ (k : Int) < (m : Int) := by omega
      obtain rfl : b = false := by rw [Bool.eq_false_iff]; intro hh; have := (hb.1 hh).2.1; omega
      clear hb hN
      go_enter Tryz.func38, Tryz.ntmps38
      go_wp2_with (first | (go_at_call 31; refine (H.out _).mono ?_; rintro e' w' ⟨rfl, rfl⟩) | go_in)
      go_ret
      exact ⟨rfl, below_one _ _⟩
  · have y0 : ¬ i ≥ 0 := by omega
    obtain rfl : b = false := by rw [Bool.eq_false_iff]; intro hh; have := (hb.1 hh).1; omega
    clear hb hN
    go_enter Tryz.func38, Tryz.ntmps38
    go_wp2
    go_ret
    exact ⟨rfl, below_one _ _⟩

/-- what may be Unmerged, behind a number -/
def UnG (ns : List Nd) (d l p : Nat) (a : Int) (un : List Int) : Prop := Rise a un ∧ ∀ j ∈ un, Under l p j ∧ There ns d j
theorem unG_nil (ns : List Nd) (d l p : Nat) (a : Int) : UnG ns d l p a [] ↔ True := ⟨fun _ => trivial, fun _ => ⟨trivial, fun _ h => by cases h⟩⟩
theorem unG_cons (ns : List Nd) (d l p : Nat) (a x : Int) (un : List Int) : UnG ns d l p a (x :: un) ↔ a < x ∧ Under l p x ∧ There ns d x ∧ UnG ns d l p x un := by
  unfold UnG
  constructor
  · rintro ⟨⟨h1, h2⟩, h3⟩
    exact ⟨h1, (h3 x (List.mem_cons_self ..)).1, (h3 x (List.mem_cons_self ..)).2, h2, fun j hj => h3 j (List.mem_cons_of_mem _ hj)⟩
  · rintro ⟨h1, h2, h3, h4, h5⟩
    refine ⟨⟨h1, h4⟩, fun j hj => ?_⟩
    rcases List.mem_cons.1 hj with rfl | hj
    · exact ⟨h2, h3⟩
    · exact h5 j hj
theorem under_lt {l p : Nat} {i : Int} (hl : l ≤ 16) (hp : p < 2 ^ (16 - l)) (h : Under l p i) : i < 65536 := by
  have h1 : i < (p + 1 : Int) * 2 ^ l := by
    have := Int.lt_mul_of_ediv_lt (a := i) (b := (p : Int) + 1) (c := 2 ^ l) (Int.pow_pos (by omega)) (by have := h.2; omega)
    exact this
  have h2 : (p + 1) * 2 ^ l ≤ 2 ^ (16 - l) * 2 ^ l := Nat.mul_le_mul_right _ (by omega)
  rw [← Nat.pow_add, show 16 - l + l = 16 by omega] at h2
  rw [pow_eq] at h1
  have h3 : ((p : Int) + 1) * ((2 ^ l : Nat) : Int) = (((p + 1) * 2 ^ l : Nat) : Int) := by rw [Int.natCast_mul]; rfl
  omega
theorem over_iff {re im l p : Nat} (h : Sp.Is re im (some (l, p))) (i : Int) (b : Bool) (hb : b = true ↔ Under l p i) : Sp.OvC re im i b := by
  refine ⟨some (l, p), h, ?_⟩
  unfold Sp.overF
  rw [Bool.eq_iff_iff, hb, decide_eq_true_iff]
  have hs : Sp.Spot re im 16 l p := h
  constructor
  · rintro ⟨h1, h2, h3⟩; exact ⟨h1, h3⟩
  · intro h4; exact ⟨h4.1, under_lt hs.lev hs.pl h4, h4.2⟩

set_option maxHeartbeats 4000000 in
set_option maxRecDepth 100000 in
theorem mayBe_is (d : Nat) (A : Option Addr) (n c : Nat) (ns : List Nd) (re im l p : Nat) (U : Option Addr) (m cu : Nat) (un : List Int) (b : Bool) (w : World) (hd : d ≤ 16) (hn : n = 2 ^ (d + 1) - 1)
    (hN : Nodes Any Any w A n c ns) (hS : Sp.Is re im (some (l, p))) (hU : Ints Any w U m cu un) (hb : b = true ↔ UnG ns d l p (-1) un) :
    Calls Tryz.prog 72 #[.agg #[.int .i64 d, .slice A n c], .complex .f64 re im, .slice U m cu] w fun e w' => e = .returned (.bool b) ∧ Below w.heap.size w w' := by
  have HD := Lib.hid hd; have HN := Lib.hid hn; have HT := Lib.hid hN; have HS := Lib.hid hS; have HU := Lib.hid hU
  have HB := Lib.hid (Iff.trans hb (show UnG ns d l p (-1) un ↔ UnG ns d l p (-1) (un.drop 0) from Iff.rfl))
  have hm : m ≤ 9223372036854775807 := by have h1 := hU.2.1; have h2 := hU.2.2.1; omega
  clear hd hn hN hS hU hb
  go_enter Tryz.func72, Tryz.ntmps72
  go_wp2
  have HW0 := Lib.hid (Below.refl w.heap.size w |>.alloc (Nat.le_refl _) (.cells #[.int .i64 d, .slice A n c] 24))
  have HTB := Lib.hid (TrB.new d A n c w)
  have hs0 : w.heap.size < (w.alloc (.cells #[.int .i64 d, .slice A n c] 24)).heap.size := by simp
  generalize w.alloc (.cells #[.int .i64 d, .slice A n c] 24) = w0 at *
  go_loopw [7, 12] (fun a i W => ∃ (k : Nat) (y : Int), k ≤ m ∧ i = .int .i64 k ∧ a = .int .i64 y ∧ Hid (b = true ↔ UnG ns d l p y (un.drop k)) ∧ Hid (Below w0.heap.size w0 W)) (fun a i _ => m - (intOf i).toNat)
  case atStart => exact ⟨0, -1, by omega, rfl, rfl, HB, Lib.hid (Below.refl _ _)⟩
  case round =>
    clear HB
    obtain ⟨k, y, hk, rfl, rfl, HB, HW⟩ := hrel
    have HB1 := Lib.hid (HW0.out.trans (HW.out.mono HW0.out.size))
    by_cases hkm : k < m
    · have yk : (k : Int) < (m : Int) := by omega
      obtain ⟨ad, rfl⟩ := HU.out.some (by omega)
      have hc := (HU.out.below HB1.out).cell k hkm
      have hb := HB.out
      rw [gi_drop un k (by rw [HU.out.len]; exact hkm), unG_cons] at hb
      generalize gi un k = x at *
      obtain ⟨q0, q1⟩ := (HTB.out.below HW.out hs0).cs
      by_cases h1 : y < x
      · have y1 : ¬ x ≤ y := by omega
        by_cases h2 : Under l p x
        · have C1 : Hid (Sp.OvC re im x true) := Lib.hid (over_iff HS.out x true (by simp [h2]))
          by_cases h3 : There ns d x
          · have C2 := Lib.hid (isThere_is d A n c ns x true wr HD.out HN.out (HT.out.below HB1.out) (by simp [h3]))
            have HB' := Lib.hid (show b = true ↔ UnG ns d l p x (un.drop (k + 1)) from hb.trans ⟨fun h => h.2.2.2, fun h => ⟨h1, h2, h3, h⟩⟩)
            clear hb h1 h2 h3
            go_wp2_with (first | (go_at_call 98; refine (Sp.over_c C1.out _).mono ?_; rintro e' w' ⟨rfl, rfl⟩) | (go_at_call 38; refine C2.out.mono ?_; rintro e' w1 ⟨rfl, hb1⟩; have HW1 := Lib.hid (HW.out.trans (hb1.mono HW.out.size)); clear hb1) | go_in)
            go_roundw
            case rel => exact ⟨k + 1, x, by omega, by go_num, rfl, HB', HW1⟩
            case measure => simp [intOf]; omega
          · have C2 := Lib.hid (isThere_is d A n c ns x false wr HD.out HN.out (HT.out.below HB1.out) (by simp [h3]))
            obtain rfl : b = false := by rw [Bool.eq_false_iff]; intro h; exact h3 (hb.1 h).2.2.1
            clear hb h1 h2 h3
            go_wp2_with (first | (go_at_call 98; refine (Sp.over_c C1.out _).mono ?_; rintro e' w' ⟨rfl, rfl⟩) | (go_at_call 38; refine C2.out.mono ?_; rintro e' w1 ⟨rfl, hb1⟩; have HW1 := Lib.hid (HB1.out.trans (hb1.mono HB1.out.size)); clear hb1) | go_in)
            go_ret
            exact ⟨rfl, HW1.out⟩
        · have C1 : Hid (Sp.OvC re im x false) := Lib.hid (over_iff HS.out x false (by simp [h2]))
          obtain rfl : b = false := by rw [Bool.eq_false_iff]; intro h; exact h2 (hb.1 h).2.1
          clear hb h1 h2
          go_wp2_with (first | (go_at_call 98; refine (Sp.over_c C1.out _).mono ?_; rintro e' w' ⟨rfl, rfl⟩) | go_in)
          go_ret
          exact ⟨rfl, HB1.out⟩
      · have y1 : x ≤ y := by omega
        obtain rfl : b = false := by rw [Bool.eq_false_iff]; intro h; exact h1 (hb.1 h).1
        clear hb h1
        go_wp2
        go_ret
        exact ⟨rfl, HB1.out⟩
    · have yk : ¬ (k : Int) < (m : Int) := by omega
      obtain rfl : b = true := HB.out.2 (by rw [List.drop_eq_nil_of_le (by rw [HU.out.len]; omega), unG_nil]; trivial)
      go_wp2
      go_ret
      exact ⟨rfl, HB1.out⟩
end Go.Proofs.YtakglldffpnlaaaGreatDoor.Rt
