/- Walks: atOnce and the four functions. -/
import Derived.Test.YtocjdklieljelaaDoorKecWalkH
namespace Go.Proofs.YtocjdklieljelaaDoor.Kec
set_option linter.all false
open Go.RowKit

theorem sponge_len (r e : Nat) (bs : List Nat) (n : Nat) : (sponge r e bs n).length = n := outs_len _ _ _
/-- bytes in a new block, and nothing that was there has turned -/
def Out (w : World) (bs : List Nat) (e' : Ending) (w' : World) : Prop :=
  ∃ h, e' = .returned (.slice (some ⟨h, 0, none⟩) bs.length bs.length) ∧ w.heap.size ≤ h ∧ w'.rowIs h 5 bs.length (byteRow bs) ∧ Below w.heap.size w w'

theorem below_of_only {w w1 w2 : World} {g : Nat} (h : Below w.heap.size w w1) (k : w1.grownBy w2 (some g)) (hg : w.heap.size ≤ g) : Below w.heap.size w w2 :=
  ⟨k.os.trans h.os, k.tape.trans h.tape, k.output.trans h.output, Nat.le_trans h.size k.size, fun i hi => (k.block i (Nat.lt_of_lt_of_le hi h.size) (by intro e; injection e; omega)).trans (h.block i hi)⟩

set_option maxHeartbeats 1000000 in
theorem once_any (r e : Nat) (A : Option Addr) (bs : List Nat) (n c m : Nat) (w : World) (h1 : 8 ≤ r) (h2 : r ≤ 192) (h3 : r % 8 = 0) (he : e < 256) (hT : Tables w)
    (hR : Rd w w.heap.size A bs) (hn : bs.length = n) (hm : n ≤ 9223372036854775807) (hk : m ≤ 65536) :
    Calls Tryd.prog 24 #[.int .i64 r, .int .u8 e, .slice A n c, .int .i64 m] w (Out w (sponge r e bs m)) := by
  have h3' := hT.lt
  have HT := Lib.hid hT; have HR := Lib.hid hR; have HN := Lib.hid hn; have H3 := Lib.hid h3; clear hT hR hn h3
  go_enter Tryd.func24, Tryd.ntmps24
  go_wp2_with fail
  refine (new_any r e _ h1 h2 H3.out).mono ?_
  rintro e' w1 ⟨rfl, hS, hB, hz⟩
  have HS := Lib.hid hS; have HB := Lib.hid hB; clear hS hB hz
  have HT1 := Lib.hid (HT.out.below HB.out h3')
  have HR1 := Lib.hid (HR.out.below HB.out)
  go_wp2_with fail
  refine (write_any w.heap.size r e w.heap.size start A bs n c _ HS.out (good_start (by omega)) h2 HT1.out h3' HR1.out (Nat.le_refl _) HN.out hm).mono ?_
  rintro e' w2 ⟨rfl, hS2, hG2⟩
  have HS2 := Lib.hid hS2; have HG2 := Lib.hid hG2; clear hS2 hG2
  have HT2 := Lib.hid (HT1.out.grown HG2.out h3')
  go_wp2_with fail
  refine (read_turns w.heap.size r e _ m _ HS2.out (good_takeAll h2 bs (good_start (by omega))) (by omega) h2 he HT2.out h3' hk).mono ?_
  rintro e' w3 ⟨h, rfl, hh, hrow, _, hG3⟩
  have HROW := Lib.hid hrow; have HG3 := Lib.hid hG3; clear hrow hG3
  go_wp2
  go_ret
  have hb2 := below_of_only HB.out HG2.out (Nat.le_refl _)
  refine ⟨h, by rw [sponge_len]; rfl, Nat.le_trans hb2.size hh, by rw [sponge_len]; exact HROW.out, below_of_only hb2 HG3.out (Nat.le_refl _)⟩

set_option maxHeartbeats 1000000 in
theorem once_bad (r e : Nat) (A : Option Addr) (bs : List Nat) (n c : Nat) (m : Int) (w : World) (h1 : 8 ≤ r) (h2 : r ≤ 192) (h3 : r % 8 = 0) (hT : Tables w)
    (hR : Rd w w.heap.size A bs) (hn : bs.length = n) (hm : n ≤ 9223372036854775807) (hk : m < 0 ∨ 65536 < m) :
    Calls Tryd.prog 24 #[.int .i64 r, .int .u8 e, .slice A n c, .int .i64 m] w fun e' w' => e' = .returned (.slice none 0 0) ∧ Below w.heap.size w w' := by
  have h3' := hT.lt
  have HT := Lib.hid hT; have HR := Lib.hid hR; have HN := Lib.hid hn; have H3 := Lib.hid h3; have HK := Lib.hid hk; clear hT hR hn h3 hk
  go_enter Tryd.func24, Tryd.ntmps24
  go_wp2_with fail
  refine (new_any r e _ h1 h2 H3.out).mono ?_
  rintro e' w1 ⟨rfl, hS, hB, hz⟩
  have HS := Lib.hid hS; have HB := Lib.hid hB; clear hS hB hz
  have HT1 := Lib.hid (HT.out.below HB.out h3')
  have HR1 := Lib.hid (HR.out.below HB.out)
  go_wp2_with fail
  refine (write_any w.heap.size r e w.heap.size start A bs n c _ HS.out (good_start (by omega)) h2 HT1.out h3' HR1.out (Nat.le_refl _) HN.out hm).mono ?_
  rintro e' w2 ⟨rfl, _, hG2⟩
  have HG2 := Lib.hid hG2; clear hG2
  go_wp2_with fail
  refine (read_bad w.heap.size m _ HK.out).mono ?_
  rintro e' w3 ⟨rfl, rfl⟩
  go_wp2
  go_ret
  exact ⟨rfl, below_of_only HB.out HG2.out (Nat.le_refl _)⟩

theorem sum256_any (A : Option Addr) (bs : List Nat) (n c : Nat) (w : World) (hT : Tables w) (hR : Rd w w.heap.size A bs) (hn : bs.length = n) (hm : n ≤ 9223372036854775807) :
    Calls Tryd.prog 10 #[.slice A n c] w (Out w (sponge 136 6 bs 32)) := by
  have HT := Lib.hid hT; have HR := Lib.hid hR; have HN := Lib.hid hn; clear hT hR hn
  go_enter Tryd.func10, Tryd.ntmps10
  go_wp2_with fail
  refine (once_any 136 6 A bs n c 32 _ (by omega) (by omega) (by omega) (by omega) HT.out HR.out HN.out hm (by omega)).mono ?_
  rintro e' w1 ⟨h, rfl, h1, h2, h3⟩
  have H2 := Lib.hid h2; have H3 := Lib.hid h3; clear h2 h3
  rw [sponge_len] at H2 ⊢
  go_wp2
  go_ret
  exact ⟨h, by rw [sponge_len]; rfl, h1, by rw [sponge_len]; exact H2.out, H3.out⟩

theorem sum512_any (A : Option Addr) (bs : List Nat) (n c : Nat) (w : World) (hT : Tables w) (hR : Rd w w.heap.size A bs) (hn : bs.length = n) (hm : n ≤ 9223372036854775807) :
    Calls Tryd.prog 11 #[.slice A n c] w (Out w (sponge 72 6 bs 64)) := by
  have HT := Lib.hid hT; have HR := Lib.hid hR; have HN := Lib.hid hn; clear hT hR hn
  go_enter Tryd.func11, Tryd.ntmps11
  go_wp2_with fail
  refine (once_any 72 6 A bs n c 64 _ (by omega) (by omega) (by omega) (by omega) HT.out HR.out HN.out hm (by omega)).mono ?_
  rintro e' w1 ⟨h, rfl, h1, h2, h3⟩
  have H2 := Lib.hid h2; have H3 := Lib.hid h3; clear h2 h3
  rw [sponge_len] at H2 ⊢
  go_wp2
  go_ret
  exact ⟨h, by rw [sponge_len]; rfl, h1, by rw [sponge_len]; exact H2.out, H3.out⟩

theorem shake128_any (A : Option Addr) (bs : List Nat) (n c m : Nat) (w : World) (hT : Tables w) (hR : Rd w w.heap.size A bs) (hn : bs.length = n) (hm : n ≤ 9223372036854775807) (hk : m ≤ 65536) :
    Calls Tryd.prog 12 #[.slice A n c, .int .i64 m] w (Out w (sponge 168 31 bs m)) := by
  have HT := Lib.hid hT; have HR := Lib.hid hR; have HN := Lib.hid hn; clear hT hR hn
  go_enter Tryd.func12, Tryd.ntmps12
  go_wp2_with fail
  refine (once_any 168 31 A bs n c m _ (by omega) (by omega) (by omega) (by omega) HT.out HR.out HN.out hm hk).mono ?_
  rintro e' w1 ⟨h, rfl, h1, h2, h3⟩
  have H2 := Lib.hid h2; have H3 := Lib.hid h3; clear h2 h3
  rw [sponge_len] at H2 ⊢
  go_wp2
  go_ret
  exact ⟨h, by rw [sponge_len]; rfl, h1, by rw [sponge_len]; exact H2.out, H3.out⟩
theorem shake128_bad (A : Option Addr) (bs : List Nat) (n c : Nat) (m : Int) (w : World) (hT : Tables w) (hR : Rd w w.heap.size A bs) (hn : bs.length = n) (hm : n ≤ 9223372036854775807) (hk : m < 0 ∨ 65536 < m) :
    Calls Tryd.prog 12 #[.slice A n c, .int .i64 m] w fun e' w' => e' = .returned (.slice none 0 0) ∧ Below w.heap.size w w' := by
  have HT := Lib.hid hT; have HR := Lib.hid hR; have HN := Lib.hid hn; have HK := Lib.hid hk; clear hT hR hn hk
  go_enter Tryd.func12, Tryd.ntmps12
  go_wp2_with fail
  refine (once_bad 168 31 A bs n c m _ (by omega) (by omega) (by omega) HT.out HR.out HN.out hm HK.out).mono ?_
  rintro e' w1 ⟨rfl, h3⟩
  have H3 := Lib.hid h3; clear h3
  go_wp2
  go_ret
  exact ⟨rfl, H3.out⟩

theorem shake256_any (A : Option Addr) (bs : List Nat) (n c m : Nat) (w : World) (hT : Tables w) (hR : Rd w w.heap.size A bs) (hn : bs.length = n) (hm : n ≤ 9223372036854775807) (hk : m ≤ 65536) :
    Calls Tryd.prog 13 #[.slice A n c, .int .i64 m] w (Out w (sponge 136 31 bs m)) := by
  have HT := Lib.hid hT; have HR := Lib.hid hR; have HN := Lib.hid hn; clear hT hR hn
  go_enter Tryd.func13, Tryd.ntmps13
  go_wp2_with fail
  refine (once_any 136 31 A bs n c m _ (by omega) (by omega) (by omega) (by omega) HT.out HR.out HN.out hm hk).mono ?_
  rintro e' w1 ⟨h, rfl, h1, h2, h3⟩
  have H2 := Lib.hid h2; have H3 := Lib.hid h3; clear h2 h3
  rw [sponge_len] at H2 ⊢
  go_wp2
  go_ret
  exact ⟨h, by rw [sponge_len]; rfl, h1, by rw [sponge_len]; exact H2.out, H3.out⟩
theorem shake256_bad (A : Option Addr) (bs : List Nat) (n c : Nat) (m : Int) (w : World) (hT : Tables w) (hR : Rd w w.heap.size A bs) (hn : bs.length = n) (hm : n ≤ 9223372036854775807) (hk : m < 0 ∨ 65536 < m) :
    Calls Tryd.prog 13 #[.slice A n c, .int .i64 m] w fun e' w' => e' = .returned (.slice none 0 0) ∧ Below w.heap.size w w' := by
  have HT := Lib.hid hT; have HR := Lib.hid hR; have HN := Lib.hid hn; have HK := Lib.hid hk; clear hT hR hn hk
  go_enter Tryd.func13, Tryd.ntmps13
  go_wp2_with fail
  refine (once_bad 136 31 A bs n c m _ (by omega) (by omega) (by omega) HT.out HR.out HN.out hm HK.out).mono ?_
  rintro e' w1 ⟨rfl, h3⟩
  have H3 := Lib.hid h3; clear h3
  go_wp2
  go_ret
  exact ⟨rfl, H3.out⟩

end Go.Proofs.YtocjdklieljelaaDoor.Kec
