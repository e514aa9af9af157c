/- All answers in one form: the program's four functions, and the document's. -/
import Derived.Test.YtdkhiooiakdecaaDoorRKecKit
import Derived.Test.YtdkhiooiakdecaaDoorRKecRefG
namespace Go.Proofs.YtdkhiooiakdecaaDoorR.Kec
set_option linter.all false
open Go.RowKit

theorem sponge_lt (r e : Nat) (bs : List Nat) (n : Nat) : ∀ j, gt (sponge r e bs n) j < 256 := gt_lt_of_mem (outs_lt _ _ _)
theorem held_of_row {lo g n : Nat} {w : World} {bs : List Nat} (h : w.rowIs g 5 n (byteRow bs)) (hl : bs.length = n) (hx : ∀ j, gt bs j < 256) (hb : lo ≤ g) (c : Nat) : Held lo (.slice (some ⟨g, 0, none⟩) n c) bs w := by
  refine ⟨_, _, _, rfl, ⟨hx, fun _ => ⟨_, rfl, h.lt, fun j hj => ?_⟩⟩, hl, fun ad e => by injection e with e; subst e; exact hb⟩
  have ha : (⟨g, 0, none⟩ : Addr).add j = ⟨g, j, none⟩ := by unfold Addr.add; split <;> simp_all
  rw [ha, h.cell (by omega)]; rfl
theorem told_of_out {w : World} {r e n : Nat} {bs : List Nat} {e' : Ending} {w' : World} (h : Out w (sponge r e bs n) e' w') : Told (sponge r e bs n) w e' w' := by
  obtain ⟨g, h1, h2, h3, h4⟩ := h
  exact ⟨_, h1, held_of_row h3 rfl (sponge_lt _ _ _ _) h2 _, h4⟩
def shk (r e : Nat) (bs : List Nat) (x : Int) : List Nat := if 0 ≤ x ∧ x ≤ 65536 then sponge r e bs x.toNat else []
set_option maxHeartbeats 1000000 in
theorem rof_any (r e : Nat) (A : Option Addr) (bs : List Nat) (n c m : Nat) (w : World) (h1 : 8 ≤ r) (h2 : r ≤ 192) (h3 : r % 8 = 0) (he : e < 256) (h3' : 3 ≤ w.heap.size)
    (hR : Rd w w.heap.size A bs) (hn : bs.length = n) (hm : n ≤ 9223372036854775807) (hk : m ≤ 65536) :
    Calls Tryd.prog 42 #[.int .i64 r, .int .u8 e, .slice A n c, .int .i64 m] w (Told (sponge r e bs m) w) := by
  have HR := Lib.hid hR; have HN := Lib.hid hn; have H3 := Lib.hid h3; clear hR hn h3
  obtain ⟨S, hS⟩ : ∃ S, sponge r e bs m = S := ⟨_, rfl⟩
  rw [hS]
  have HSE := Lib.hid hS; clear hS
  have HSL : Hid (∀ j, gt S j < 256) := Lib.hid (by rw [← HSE.out]; exact sponge_lt _ _ _ _)
  go_enter Tryd.func42, Tryd.ntmps42
  go_wp2_with fail
  refine (rnew_any r e _ h1 h2 H3.out).mono ?_
  rintro e' w1 ⟨rfl, hS, hB, hz⟩
  have HS := Lib.hid hS; have HB := Lib.hid hB; clear hS hB hz
  have HR1 := Lib.hid (HR.out.below HB.out)
  go_wp2_with fail
  refine (rwrite_any w.heap.size r e w.heap.size start A bs n c _ HS.out (good_start (by omega)) h2 h3' HR1.out (Nat.le_refl _) HN.out hm).mono ?_
  rintro e' w2 ⟨rfl, hS2, hG2⟩
  have HS2 := Lib.hid hS2; have HG2 := Lib.hid hG2; clear hS2 hG2
  have HB2 := Lib.hid (below_of_only HB.out HG2.out (Nat.le_refl _))
  go_wp2_with fail
  refine (rread_turns w.heap.size r e _ m _ HS2.out (good_takeAll h2 bs (good_start (by omega))) h2 (by omega) he hk).mono ?_
  rintro e' w3 ⟨v, rfl, hown, _, hG3⟩
  have hown : w3.ownsRow w2.heap.size 5 1 v m (bcells S) := by rw [← HSE.out]; exact hown
  have HH := Lib.hid (Held.of_own (lo := w.heap.size) hown HSL.out HB2.out.size)
  have HG3 := Lib.hid hG3
  clear hown hG3
  obtain ⟨A', n', c', rfl, -⟩ := id HH.out
  go_wp2
  go_ret
  exact ⟨_, rfl, HH.out, below_of_only HB2.out HG3.out (Nat.le_refl _)⟩
set_option maxHeartbeats 1000000 in
theorem rof_bad (r e : Nat) (A : Option Addr) (bs : List Nat) (n c : Nat) (m : Int) (w : World) (h1 : 8 ≤ r) (h2 : r ≤ 192) (h3 : r % 8 = 0) (h3' : 3 ≤ w.heap.size)
    (hR : Rd w w.heap.size A bs) (hn : bs.length = n) (hm : n ≤ 9223372036854775807) (hk : m < 0 ∨ 65536 < m) :
    Calls Tryd.prog 42 #[.int .i64 r, .int .u8 e, .slice A n c, .int .i64 m] w (Told [] w) := by
  have HR := Lib.hid hR; have HN := Lib.hid hn; have H3 := Lib.hid h3; have HK := Lib.hid hk; clear hR hn h3 hk
  go_enter Tryd.func42, Tryd.ntmps42
  go_wp2_with fail
  refine (rnew_any r e _ h1 h2 H3.out).mono ?_
  rintro e' w1 ⟨rfl, hS, hB, hz⟩
  have HS := Lib.hid hS; have HB := Lib.hid hB; clear hS hB hz
  have HR1 := Lib.hid (HR.out.below HB.out)
  go_wp2_with fail
  refine (rwrite_any w.heap.size r e w.heap.size start A bs n c _ HS.out (good_start (by omega)) h2 h3' HR1.out (Nat.le_refl _) HN.out hm).mono ?_
  rintro e' w2 ⟨rfl, hS2, hG2⟩
  have HG2 := Lib.hid hG2; clear hS2 hG2
  have HB2 := Lib.hid (below_of_only HB.out HG2.out (Nat.le_refl _))
  go_wp2_with fail
  refine (rread_bad w.heap.size m _ HK.out).mono ?_
  rintro e' w3 ⟨rfl, rfl⟩
  go_wp2
  go_ret
  exact ⟨_, rfl, Held.none _ _, HB2.out⟩
theorem rof_told (r e : Nat) (A : Option Addr) (bs : List Nat) (n c : Nat) (x : Int) (w : World) (h1 : 8 ≤ r) (h2 : r ≤ 192) (h3 : r % 8 = 0) (he : e < 256) (h3' : 3 ≤ w.heap.size)
    (hR : Rd w w.heap.size A bs) (hn : bs.length = n) (hm : n ≤ 9223372036854775807) :
    Calls Tryd.prog 42 #[.int .i64 r, .int .u8 e, .slice A n c, .int .i64 x] w (Told (shk r e bs x) w) := by
  unfold shk
  by_cases h : 0 ≤ x ∧ x ≤ 65536
  · rw [if_pos h]
    obtain ⟨k, rfl⟩ : ∃ k : Nat, x = k := ⟨x.toNat, by omega⟩
    rw [show ((k : Int)).toNat = k by omega]
    exact rof_any r e A bs n c k w h1 h2 h3 he h3' hR hn hm (by omega)
  · rw [if_neg h]
    exact rof_bad r e A bs n c x w h1 h2 h3 h3' hR hn hm (by omega)
theorem shk_at (r e : Nat) (bs : List Nat) (k : Nat) (h : k ≤ 65536) : shk r e bs k = sponge r e bs k := by
  unfold shk; rw [if_pos (by omega), show ((k : Int)).toNat = k by omega]
set_option maxHeartbeats 1000000 in
theorem rshake128_told (A : Option Addr) (bs : List Nat) (n c : Nat) (x : Int) (w : World) (h3' : 3 ≤ w.heap.size) (hR : Rd w w.heap.size A bs) (hn : bs.length = n) (hm : n ≤ 9223372036854775807) :
    Calls Tryd.prog 24 #[.slice A n c, .int .i64 x] w (Told (shk 168 31 bs x) w) := by
  have HR := Lib.hid hR; have HN := Lib.hid hn; clear hR hn
  obtain ⟨S, hS⟩ : ∃ S, shk 168 31 bs x = S := ⟨_, rfl⟩
  rw [hS]
  have HSE := Lib.hid hS; clear hS
  go_enter Tryd.func24, Tryd.ntmps24
  go_wp2_with fail
  refine (rof_told 168 31 A bs n c x _ (by omega) (by omega) (by omega) (by omega) h3' HR.out HN.out hm).mono ?_
  rw [HSE.out]
  rintro e' w1 ⟨v, rfl, hh, hB⟩
  have HH := Lib.hid hh; have HB := Lib.hid hB; clear hh hB
  obtain ⟨A', n', c', rfl, -⟩ := id HH.out
  go_wp2
  go_ret
  exact ⟨_, rfl, HH.out, HB.out⟩
end Go.Proofs.YtdkhiooiakdecaaDoorR.Kec
