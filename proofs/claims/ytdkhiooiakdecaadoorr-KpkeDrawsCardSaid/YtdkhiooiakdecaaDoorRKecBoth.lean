/- Both sponges beside one another: what a call makes of either, in one form. -/
import Derived.Test.YtdkhiooiakdecaaDoorRKecTold
namespace Go.Proofs.YtdkhiooiakdecaaDoorR.Kec
set_option linter.all false
open Go.RowKit

/-- what is known of a sponge: does it give, and its place and words -/
def wrS (r : Nat) (gs : Bool × (Nat × List Nat)) (bs : List Nat) : Bool × (Nat × List Nat) := if gs.1 = true then gs else (false, takeAll r gs.2 bs)
def sq (r e : Nat) (gs : Bool × (Nat × List Nat)) : Nat × List Nat := if gs.1 = true then gs.2 else turned r e gs.2
def rdS (r e : Nat) (gs : Bool × (Nat × List Nat)) (x : Int) : Bool × (Nat × List Nat) := if 0 ≤ x ∧ x ≤ 65536 then (true, after r (sq r e gs) x.toNat) else gs
def rdB (r e : Nat) (gs : Bool × (Nat × List Nat)) (x : Int) : List Nat := if 0 ≤ x ∧ x ≤ 65536 then outs r (sq r e gs) x.toNat else []
def PSt (w : World) (g r e : Nat) (gs : Bool × (Nat × List Nat)) : Prop := Sp w g r e gs.1 gs.2
def RSt (w : World) (g r e : Nat) (gs : Bool × (Nat × List Nat)) : Prop := if gs.1 = true then LzAt w g r e gs.2 0 else RSp w g r e false gs.2
theorem good_wrS {r : Nat} {gs : Bool × (Nat × List Nat)} (h : Good r gs.2) (hr : r ≤ 192) (bs : List Nat) : Good r (wrS r gs bs).2 := by
  unfold wrS
  split
  · exact h
  · exact good_takeAll hr bs h
theorem good_sq {r e : Nat} {gs : Bool × (Nat × List Nat)} (h : Good r gs.2) (h0 : 0 < r) (hr : r ≤ 192) : Good r (sq r e gs) := by
  unfold sq
  split
  · exact h
  · exact good_turned e h h0 hr
theorem good_rdS {r e : Nat} {gs : Bool × (Nat × List Nat)} (h : Good r gs.2) (h0 : 0 < r) (hr : r ≤ 192) (x : Int) : Good r (rdS r e gs x).2 := by
  unfold rdS
  split
  · exact good_after (good_sq h h0 hr) _
  · exact h
theorem rdB_lt (r e : Nat) (gs : Bool × (Nat × List Nat)) (x : Int) : ∀ j, gt (rdB r e gs x) j < 256 := by
  unfold rdB
  split
  · exact gt_lt_of_mem (outs_lt _ _ _)
  · intro j; simp [gt]
theorem PSt.lt {w : World} {g r e : Nat} {gs : Bool × (Nat × List Nat)} (h : PSt w g r e gs) : g < w.heap.size := St.lt h
theorem RSt.lt {w : World} {g r e : Nat} {gs : Bool × (Nat × List Nat)} (h : RSt w g r e gs) : g < w.heap.size := by
  unfold RSt at h
  split at h
  · obtain ⟨a, ws, h1, _⟩ := h; exact h1.2.lt
  · exact h.2.lt
theorem PSt.of_block {w w' : World} {g r e : Nat} {gs : Bool × (Nat × List Nat)} (h : PSt w g r e gs) (k : w'.heap[g]? = w.heap[g]?) : PSt w' g r e gs := St.of_block h k
theorem RSt.of_block {w w' : World} {g r e : Nat} {gs : Bool × (Nat × List Nat)} (h : RSt w g r e gs) (k : w'.heap[g]? = w.heap[g]?) : RSt w' g r e gs := by
  unfold RSt at h ⊢
  split
  · rename_i hc
    rw [if_pos hc] at h
    obtain ⟨a, ws, h1, h2⟩ := h
    exact ⟨a, ws, St.of_block h1 k, h2⟩
  · rename_i hc
    rw [if_neg hc] at h
    exact St.of_block h k
theorem PSt.grown {w w' : World} {g g' r e : Nat} {gs : Bool × (Nat × List Nat)} (h : PSt w g r e gs) (k : w.grownBy w' (some g')) (hne : g ≠ g') : PSt w' g r e gs := h.of_block (k.block g h.lt (by intro e; injection e; omega))
theorem RSt.grown {w w' : World} {g g' r e : Nat} {gs : Bool × (Nat × List Nat)} (h : RSt w g r e gs) (k : w.grownBy w' (some g')) (hne : g ≠ g') : RSt w' g r e gs := h.of_block (k.block g h.lt (by intro e; injection e; omega))
theorem PSt.drew {w : World} {g r e : Nat} {gs : Bool × (Nat × List Nat)} (h : PSt w g r e gs) : PSt w.drew g r e gs := h
theorem RSt.drew {w : World} {g r e : Nat} {gs : Bool × (Nat × List Nat)} (h : RSt w g r e gs) : RSt w.drew g r e gs := RSt.of_block h rfl

theorem pwrite_all (g r e B : Nat) (gs : Bool × (Nat × List Nat)) (A : Option Addr) (bs : List Nat) (n c : Nat) (w : World) (hS : PSt w g r e gs) (hG : Good r gs.2) (hr : r ≤ 192) (hT : Tables w) (hb : 3 ≤ g)
    (hR : Rd w B A bs) (hB : B ≤ g) (hn : bs.length = n) (hm : n ≤ 9223372036854775807) :
    Calls Tryd.prog 38 #[.pointer (some ⟨g, 0, none⟩), .slice A n c] w fun e' w' => e' = .returned (.tuple #[]) ∧ PSt w' g r e (wrS r gs bs) ∧ w.grownBy w' (some g) := by
  obtain ⟨gv, s⟩ := gs
  cases gv with
  | true => exact (write_gives g r e s _ w hS).mono fun _ _ ⟨h1, h2⟩ => by subst h2; exact ⟨h1, hS, World.grownBy.refl _ _⟩
  | false => exact write_any g r e B s A bs n c w hS hG hr hT hb hR hB hn hm
theorem rwrite_all (g r e B : Nat) (gs : Bool × (Nat × List Nat)) (A : Option Addr) (bs : List Nat) (n c : Nat) (w : World) (hS : RSt w g r e gs) (hG : Good r gs.2) (hr : r ≤ 192) (hb : 3 ≤ g)
    (hR : Rd w B A bs) (hB : B ≤ g) (hn : bs.length = n) (hm : n ≤ 9223372036854775807) :
    Calls Tryd.prog 55 #[.pointer (some ⟨g, 0, none⟩), .slice A n c] w fun e' w' => e' = .returned (.tuple #[]) ∧ RSt w' g r e (wrS r gs bs) ∧ w.grownBy w' (some g) := by
  obtain ⟨gv, s⟩ := gs
  cases gv with
  | true =>
    have hL : LzAt w g r e s 0 := hS
    obtain ⟨a, ws, h1, _⟩ := id hL
    exact (rwrite_gives g r e (a, ws) A n c w h1 hm).mono fun _ _ ⟨h1, h2⟩ => by subst h2; exact ⟨h1, hL, World.grownBy.refl _ _⟩
  | false => exact rwrite_any g r e B s A bs n c w hS hG hr hb hR hB hn hm
theorem pread_all (g r e : Nat) (gs : Bool × (Nat × List Nat)) (x : Int) (w : World) (hS : PSt w g r e gs) (hG : Good r gs.2) (hr0 : 0 < r) (hr : r ≤ 192) (he : e < 256) (hT : Tables w) (hb : 3 ≤ g) :
    Calls Tryd.prog 40 #[.pointer (some ⟨g, 0, none⟩), .int .i64 x] w fun e' w' => ∃ v, e' = .returned v ∧ Held w.heap.size v (rdB r e gs x) w' ∧ PSt w' g r e (rdS r e gs x) ∧ w.grownBy w' (some g) := by
  by_cases h : 0 ≤ x ∧ x ≤ 65536
  · obtain ⟨k, rfl⟩ : ∃ k : Nat, x = k := ⟨x.toNat, by omega⟩
    have hB := rdB_lt r e gs (k : Int)
    unfold rdB rdS at *
    rw [if_pos h] at *
    rw [if_pos h]
    rw [show ((k : Int)).toNat = k by omega] at *
    have fin : ∀ (e' : Ending) (w' : World), Gave w g r e (sq r e gs) k e' w' → ∃ v, e' = .returned v ∧ Held w.heap.size v (outs r (sq r e gs) k) w' ∧ PSt w' g r e (true, after r (sq r e gs) k) ∧ w.grownBy w' (some g) := by
      rintro e' w' ⟨q, h1, h2, h3, h4, h5⟩
      exact ⟨_, h1, held_of_row h3 (outs_len _ _ _) hB h2 _, h4, h5⟩
    obtain ⟨gv, s⟩ := gs
    cases gv with
    | true => exact (read_gives g r e s k w hS hG hr hT hb (by omega)).mono fin
    | false => exact (read_turns g r e s k w hS hG hr0 hr he hT hb (by omega)).mono fin
  · unfold rdB rdS
    rw [if_neg h, if_neg h]
    exact (read_bad g x w (by omega)).mono fun _ _ ⟨h1, h2⟩ => by subst h2; exact ⟨_, h1, Held.none _ _, hS, World.grownBy.refl _ _⟩
theorem rread_all (g r e : Nat) (gs : Bool × (Nat × List Nat)) (x : Int) (w : World) (hS : RSt w g r e gs) (hG : Good r gs.2) (hr0 : 0 < r) (hr : r ≤ 192) (he : e < 256) :
    Calls Tryd.prog 56 #[.pointer (some ⟨g, 0, none⟩), .int .i64 x] w fun e' w' => ∃ v, e' = .returned v ∧ Held w.heap.size v (rdB r e gs x) w' ∧ RSt w' g r e (rdS r e gs x) ∧ w.grownBy w' (some g) := by
  by_cases h : 0 ≤ x ∧ x ≤ 65536
  · obtain ⟨k, rfl⟩ : ∃ k : Nat, x = k := ⟨x.toNat, by omega⟩
    have hB := rdB_lt r e gs (k : Int)
    unfold rdB rdS at *
    rw [if_pos h] at *
    rw [if_pos h]
    rw [show ((k : Int)).toNat = k by omega] at *
    have fin : ∀ (e' : Ending) (w' : World), (∃ v, e' = .returned v ∧ w'.ownsRow w.heap.size 5 1 v k (bcells (outs r (sq r e gs) k)) ∧ LzAt w' g r e (sq r e gs) k ∧ w.grownBy w' (some g)) →
        ∃ v, e' = .returned v ∧ Held w.heap.size v (outs r (sq r e gs) k) w' ∧ RSt w' g r e (true, after r (sq r e gs) k) ∧ w.grownBy w' (some g) := by
      rintro e' w' ⟨v, h1, h2, h3, h4⟩
      exact ⟨v, h1, Held.of_own h2 hB (Nat.le_refl _), h3, h4⟩
    obtain ⟨gv, s⟩ := gs
    cases gv with
    | true => exact (rread_gives g r e s s k w hS hr hr0 (by omega)).mono fin
    | false => exact (rread_turns g r e s k w hS hG hr hr0 he (by omega)).mono fin
  · unfold rdB rdS
    rw [if_neg h, if_neg h]
    exact (rread_bad g x w (by omega)).mono fun _ _ ⟨h1, h2⟩ => by subst h2; exact ⟨_, h1, Held.none _ _, hS, World.grownBy.refl _ _⟩
theorem i64_and1 (n : Int) : bits .and .i64 n 1 = n % 2 := by
  have h1 : (BitVec.ofInt 64 1).toNat = 2 ^ 1 - 1 := by decide
  have key : (BitVec.ofInt 64 n &&& BitVec.ofInt 64 1).toNat = (n % ((2 ^ 64 : Nat) : Int)).toNat % 2 ^ 1 := by
    rw [BitVec.toNat_and, BitVec.toNat_ofInt, h1, Nat.and_two_pow_sub_one_eq_mod]
  show IntKind.i64.wrap ((BitVec.ofInt 64 n &&& BitVec.ofInt 64 1).toNat : Nat) = n % 2
  rw [key, IntKind.wrap_i64]
  omega
end Go.Proofs.YtdkhiooiakdecaaDoorR.Kec
