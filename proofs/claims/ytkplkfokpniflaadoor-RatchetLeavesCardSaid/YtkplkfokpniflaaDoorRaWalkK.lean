/- Walks: secretOf, towards, Secret. -/
import Derived.Test.YtkplkfokpniflaaDoorRaWalkA
import Derived.Test.YtkplkfokpniflaaDoorRaFloat
import Derived.WalkMore
import Derived.ScopeJumps
import Derived.OwnWalk
namespace Go.Proofs.YtkplkfokpniflaaDoor.Ra
set_option linter.all false
open Go.RowKit Fl
open Wr (Txt Any New bcells gt)
open Sp (Is Ws Spot downF overF leafF)

def sideB (b : Bool) : ByteArray := if b then ⟨#[114, 105, 103, 104, 116]⟩ else ⟨#[108, 101, 102, 116]⟩
def oneD (s : List Nat) (b : Bool) : List Nat := lb s ⟨#[116, 114, 101, 101]⟩ (Sha.strL (sideB b))
def bitAt (leaf k : Nat) : Bool := decide (leaf / 2 ^ k % 2 = 1)
/-- down from a level to a leaf -/
def down (leaf : Nat) : Nat → List Nat → List Nat
  | 0, s => s
  | k + 1, s => down leaf k (oneD s (bitAt leaf k))
def secretR (e : List Nat) (deep leaf : Int) : List Nat := if e.length = 32 ∧ 0 ≤ deep ∧ deep ≤ 16 ∧ 0 ≤ leaf ∧ leaf < 2 ^ deep.toNat then down leaf.toNat deep.toNat e else []
theorem side_size (b : Bool) : (sideB b).size ≤ 5 := by cases b <;> decide
theorem oneD_len (s : List Nat) (b : Bool) : (oneD s b).length = 32 := lb_len (by decide) (by rw [Sha.strL_len]; have := side_size b; omega)
theorem oneD_lt (s : List Nat) (b : Bool) : ∀ j, gt (oneD s b) j < 256 := lb_lt _ _ _
theorem down_len (leaf : Nat) : ∀ (k : Nat) (s : List Nat), s.length = 32 → (down leaf k s).length = 32
  | 0, s, h => h
  | k + 1, s, h => down_len leaf k _ (oneD_len _ _)

theorem str_txt (w : World) (s : ByteArray) (hs : s.size ≤ 1000000) : ∃ c w', (convert 9 22 (.string s)).run Tryd.prog w = .ok (.slice (some ⟨w.heap.size, 0, none⟩) s.size c) w' ∧ Below w.heap.size w w' ∧ Txt Any w' (some ⟨w.heap.size, 0, none⟩) s.size c (Sha.strL s) := by
  obtain ⟨c, w', h1, h2, h3, h4, h5, h6⟩ := Sha.run_str_bytes w s hs
  exact ⟨c, w', h3, h4, by rw [h5]; exact h6, Sha.strL_len s, h1, h2, fun e => (by cases e), fun _ _ => trivial⟩

set_option maxHeartbeats 2000000 in
theorem secretOf_is (A : Option Addr) (s : List Nat) (n c : Nat) (b : Bool) (w : World) (hT : Tabs w) (hA : Txt Any w A n c s) (hn : n ≤ 100000) :
    Calls Tryd.prog 25 #[.slice A n c, .string (sideB b)] w (Wr.Told (oneD s b) w) := by
  obtain ⟨c1, w1, hrun, hb1, hX1⟩ := str_txt w (sideB b) (by have := side_size b; omega)
  have CL := Lib.hid (label_any ⟨#[116, 114, 101, 101]⟩ A (some ⟨w.heap.size, 0, none⟩) s (Sha.strL (sideB b)) n c (sideB b).size c1 32 w1 (hT.at hb1) (hA.below hb1) hn hX1)
  have HB := Lib.hid hb1
  obtain ⟨sd, hsd⟩ : ∃ x, sideB b = x := ⟨_, rfl⟩
  obtain ⟨z, hz⟩ : ∃ z, oneD s b = z := ⟨_, rfl⟩
  have hz' : Sha.lab s ⟨#[116, 114, 101, 101]⟩ (Sha.strL sd) 32 = z := by rw [← hz, ← hsd]; rfl
  rw [hsd] at CL hrun
  rw [hz'] at CL
  rw [hsd, hz]
  clear hb1 hX1 hsd hz hz' hT hA
  go_enter Tryd.func25, Tryd.ntmps25
  go_wp2_with fail
  refine CL.out.mono ?_
  rintro e' w2 ⟨A2, n2, c2, rfl, hX, hb⟩
  have HX := Lib.hid (txt_low hX HB.out.size); have HB2 := Lib.hid (HB.out.trans (hb.mono HB.out.size))
  clear hX hb
  go_wp2
  go_ret
  exact ⟨_, _, _, rfl, HX.out, HB2.out⟩

theorem bit_true {leaf l p : Nat} (h : leaf / 2 ^ (l + 1) = p) (hb : bitAt leaf l = true) : leaf / 2 ^ l = 2 * p + 1 := by
  unfold bitAt at hb
  simp only [decide_eq_true_eq] at hb
  rw [Nat.pow_succ, ← Nat.div_div_eq_div_mul] at h
  omega
theorem bit_false {leaf l p : Nat} (h : leaf / 2 ^ (l + 1) = p) (hb : bitAt leaf l = false) : leaf / 2 ^ l = 2 * p := by
  unfold bitAt at hb
  simp only [decide_eq_false_iff_not] at hb
  rw [Nat.pow_succ, ← Nat.div_div_eq_div_mul] at h
  omega
theorem is_step (a k : Nat) (ha : a < 65536) (hk : k ≤ 16) : Is (fl k) (fl (a / 2 ^ k)) (some (k, a / 2 ^ k)) := by
  refine ⟨nz_fl _, nz_fl _, hk, ?_⟩
  rw [Nat.div_lt_iff_lt_mul (Nat.two_pow_pos k), ← Nat.pow_add, show 16 - k + k = 16 by omega]
  exact ha

structure DnC (re im : Nat) (right : Bool) (x y : Nat) : Prop where
  is : ∃ o, Is re im o ∧ Ws (downF right o) x y
theorem down_c {re im x y : Nat} {right : Bool} (h : DnC re im right x y) (w : World) : Calls Tryd.prog 35 #[.complex .f64 re im, .bool right] w fun e w' => e = .returned (.complex .f64 x y) ∧ w = w' := by
  obtain ⟨o, h1, h2⟩ := h.is; exact Sp.down_is re im x y right o w h1 h2

set_option maxHeartbeats 2000000 in
theorem towards_is (re im l leaf x y : Nat) (w : World) (hI : Is re im (some (l + 1, leaf / 2 ^ (l + 1)))) (hl : leaf < 65536) (hw : Ws (l, leaf / 2 ^ l) x y) :
    Calls Tryd.prog 24 #[.complex .f64 re im, .int .i64 leaf] w fun e w' => e = .returned (.tuple #[.complex .f64 x y, .string (sideB (bitAt leaf l))]) ∧ w = w' := by
  have hs : Spot re im 16 (l + 1) (leaf / 2 ^ (l + 1)) := hI
  have hlev := hs.lev
  cases hb : bitAt leaf l with
  | true =>
    have hp := bit_true rfl hb
    have C1 := Lib.hid (Sp.down_is re im x y true _ w hI (by simp only [downF, if_neg (show ¬ l + 1 = 0 by omega)]; exact ⟨hw.x, by rw [← hw.y, hp]; simp⟩))
    have hI1 := is_step leaf l hl (by omega)
    rw [show fl l = x from hw.x, show fl (leaf / 2 ^ l) = y from hw.y] at hI1
    have C2 := Lib.hid (Sp.over_is x y leaf _ true w hI1 (by simp only [overF]; rw [decide_eq_true_iff]; exact ⟨by omega, by omega, by simp⟩))
    clear hI hs hw hp hI1 hb
    go_enter Tryd.func24, Tryd.ntmps24
    go_wp2_with (first | (go_at_call 35; refine C1.out.mono ?_; rintro e' w' ⟨rfl, rfl⟩) | (go_at_call 22; refine C2.out.mono ?_; rintro e' w' ⟨rfl, rfl⟩) | go_in)
    go_ret2
    exact ⟨rfl, rfl⟩
  | false =>
    have hp := bit_false rfl hb
    obtain ⟨y', hy'⟩ : ∃ y', fl (2 * (leaf / 2 ^ (l + 1)) + 1) = y' := ⟨_, rfl⟩
    have C1 : Hid (DnC re im true x y') := Lib.hid ⟨_, hI, by simp only [downF, if_neg (show ¬ l + 1 = 0 by omega)]; exact ⟨hw.x, hy'⟩⟩
    have hI1 : Is x y' (some (l, 2 * (leaf / 2 ^ (l + 1)) + 1)) := ⟨.inl hw.x.symm, .inl hy'.symm, by omega, by
      have h1 := hs.pl
      have e : 2 ^ (16 - l) = 2 * 2 ^ (16 - (l + 1)) := by rw [show 16 - l = (16 - (l + 1)) + 1 by omega, Nat.pow_succ]; omega
      omega⟩
    have C2 := Lib.hid (Sp.over_is x y' leaf _ false w hI1 (by simp only [overF]; rw [decide_eq_false_iff_not]; rintro ⟨-, -, h⟩; exact absurd (Int.ofNat_inj.1 ((show ((leaf / 2 ^ l : Nat) : Int) = (leaf : Int) / 2 ^ l by simp).trans h)) (by omega)))
    have C3 : Hid (DnC re im false x y) := Lib.hid ⟨_, hI, by simp only [downF, if_neg (show ¬ l + 1 = 0 by omega)]; exact ⟨hw.x, by rw [← hw.y, hp]; simp⟩⟩
    clear hI hs hw hp hI1 hb hy'
    go_enter Tryd.func24, Tryd.ntmps24
    go_wp2_with (first | (go_at_call 35; refine (down_c (by first | exact C1.out | exact C3.out) _).mono ?_; rintro e' w' ⟨rfl, rfl⟩) | (go_at_call 22; refine C2.out.mono ?_; rintro e' w' ⟨rfl, rfl⟩) | go_in)
    go_ret2
    exact ⟨rfl, rfl⟩
end Go.Proofs.YtkplkfokpniflaaDoor.Ra
