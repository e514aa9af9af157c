/- The document's own: what its layers tell; its stream. -/
import Derived.Test.YtfhibjpkbbbfpaaDoorBxKit
namespace Go.Proofs.YtfhibjpkbbbfpaaDoor.Bx
set_option linter.all false
open Go.RowKit Wr

theorem rlabel_any (s : ByteArray) (hs : s.size ≤ 40) (A : Option Addr) (key : List Nat) (n c : Nat) (w : World) (hK : Txt Any w A n c key) (hm : n ≤ 32) :
    Calls Tryd.prog 27 #[.slice A n c, .string s, .slice none 0 0, .int .i64 32] w (Wr.Told (lb key s) w) :=
  (Sha.rlabel_any s A none key [] n c 0 0 32 w hK.1 hK.2.1 hK.2.2.2.2.1 (by omega) (Sha.Rd.nil _ _ _) rfl (fun _ => rfl) (by omega) hs (by omega)).mono
    fun e w' ⟨v, he, ho, hb⟩ => by subst he; exact told_of_own ho (lb_lt _ _) hb
theorem rhmac_any (A A2 : Option Addr) (key t : List Nat) (n c n2 c2 : Nat) (w : World) (hK : Txt Any w A n c key) (hm : n ≤ 20000) (hX : Txt Any w A2 n2 c2 t) (hm2 : n2 ≤ 90000) :
    Calls Tryd.prog 29 #[.slice A n c, .slice A2 n2 c2] w (Wr.Told (Sha.mac key t) w) :=
  (Sha.rmac_wide A A2 key t n c n2 c2 w hK.1 hK.2.1 hK.2.2.2.2.1 hm hX.1 hX.2.1 hX.2.2.2.2.1 hm2).mono
    fun e w' ⟨h, cap, he, ho, hb⟩ => by subst he; exact told_of_own ho (Sha.mac_lt _ _) hb

/-- bytes in a row of the call's own -/
def OwnT (bs : List Nat) (w : World) (e : Ending) (w' : World) : Prop := ∃ v, e = .returned v ∧ w'.ownsRow w.heap.size 5 1 v bs.length (bcells bs) ∧ Below w.heap.size w w'
set_option maxHeartbeats 1000000 in
theorem rof_own (r e : Nat) (A : Option Addr) (bs : List Nat) (n c m : Nat) (w : World) (h1 : 8 ≤ r) (h2 : r ≤ 192) (h3 : r % 8 = 0) (he : e < 256) (h3' : 6 ≤ w.heap.size)
    (hX : Txt Any w A n c bs) (hk : m ≤ 65536) :
    Calls Tryd.prog 36 #[.int .i64 r, .int .u8 e, .slice A n c, .int .i64 m] w (OwnT (Kec.sponge r e bs m) w) := by
  have HX := Lib.hid hX; have H3 := Lib.hid h3; clear hX h3
  obtain ⟨S, hS⟩ : ∃ S, Kec.sponge r e bs m = S := ⟨_, rfl⟩
  have hSl : S.length = m := by rw [← hS]; exact Kec.sponge_len _ _ _ _
  rw [hS]
  have HSE := Lib.hid hS; have HSN := Lib.hid hSl; clear hS hSl
  have HSL : Hid (∀ j, gt S j < 256) := Lib.hid (by rw [← HSE.out]; exact Kec.sponge_lt _ _ _ _)
  go_enter Tryd.func36, Tryd.ntmps36
  go_wp2_with fail
  refine (Kec.rnew_any r e _ h1 h2 H3.out).mono ?_
  rintro e' w1 ⟨rfl, hS, hB, hz⟩
  have HS := Lib.hid hS; have HB := Lib.hid hB; clear hS hB hz
  have HR1 := Lib.hid (Kec.Rd.below HX.out.1 HB.out)
  go_wp2_with fail
  refine (Kec.rwrite_any w.heap.size r e w.heap.size Kec.start A bs n c _ HS.out (Kec.good_start (by omega)) h2 h3' HR1.out (Nat.le_refl _) HX.out.2.1 (by have := HX.out.2.2.1; have := HX.out.2.2.2.1; omega)).mono ?_
  rintro e' w2 ⟨rfl, hS2, hG2⟩
  have HS2 := Lib.hid hS2; have HG2 := Lib.hid hG2; clear hS2 hG2
  have HB2 := Lib.hid (Kec.below_of_only HB.out HG2.out (Nat.le_refl _))
  go_wp2_with fail
  refine (Kec.rread_turns w.heap.size r e _ m _ HS2.out (Kec.good_takeAll h2 bs (Kec.good_start (by omega))) h2 (by omega) he hk).mono ?_
  rintro e' w3 ⟨v, rfl, hown, _, hG3⟩
  have hown : w3.ownsRow w2.heap.size 5 1 v m (bcells S) := by rw [← HSE.out]; exact hown
  have HO := Lib.hid (Kec.own_down hown HB2.out.size)
  have HG3 := Lib.hid hG3
  obtain ⟨A', c', rfl⟩ := own_slice_of hown
  clear hown hG3
  go_wp2
  go_ret
  exact ⟨_, rfl, by rw [HSN.out]; exact HO.out, Kec.below_of_only HB2.out HG3.out (Nat.le_refl _)⟩
set_option maxHeartbeats 1000000 in
theorem rshake_any (A : Option Addr) (bs : List Nat) (n c m : Nat) (w : World) (h3' : 6 ≤ w.heap.size) (hX : Txt Any w A n c bs) (hk : m ≤ 65536) :
    Calls Tryd.prog 26 #[.slice A n c, .int .i64 m] w (OwnT (strm bs m) w) := by
  have HX := Lib.hid hX; clear hX
  obtain ⟨S, hS⟩ : ∃ S, strm bs m = S := ⟨_, rfl⟩
  rw [hS]
  have HSE := Lib.hid (show Kec.sponge 136 31 bs m = S from hS); clear hS
  go_enter Tryd.func26, Tryd.ntmps26
  go_wp2_with fail
  refine (rof_own 136 31 A bs n c m _ (by omega) (by omega) (by omega) (by omega) h3' HX.out hk).mono ?_
  rw [HSE.out]
  rintro e' w1 ⟨v, rfl, hO, hB⟩
  have HO := Lib.hid hO; have HB := Lib.hid hB
  obtain ⟨A', c', rfl⟩ := own_slice_of hO
  clear hO hB
  go_wp2
  go_ret
  exact ⟨_, rfl, HO.out, HB.out⟩

/-! ### A row of one's own, one byte set -/
theorem own_at {w : World} {base n g cap : Nat} {xs : List Nat} (h : w.ownsRow base 5 1 (.slice (some ⟨g, 0, none⟩) n cap) n (bcells xs)) (k : Nat) (hk : k < n) :
    w.cell? ⟨g, k, none⟩ = some (.int .u8 ((gt xs k : Nat) : Int)) ∧ w.frozen? ⟨g, k, none⟩ = false ∧ base ≤ g := by
  have hl : xs.length = n := by have := h.1; rw [bcells_len] at this; omega
  rcases h.2 with ⟨e, _⟩ | ⟨g', c, cur, e, hb, hc, h1, h2, h3, h4⟩
  · cases e
  · injection e with e1 _ _
    injection e1 with e1
    injection e1 with e1
    subst e1
    refine ⟨?_, by simp [World.frozen?, hc], hb⟩
    rw [cell_of_row w g k cur 5 (0, 0) hc]
    have := bcells_at xs k (by omega)
    rw [← h4, List.getElem?_take_of_lt (by omega), Array.getElem?_toList] at this
    exact this
theorem own_set {w : World} {base n g cap : Nat} {xs : List Nat} (h : w.ownsRow base 5 1 (.slice (some ⟨g, 0, none⟩) n cap) n (bcells xs)) (k v : Nat) (hk : k < n) :
    (w.setCell ⟨g, k, none⟩ (.int .u8 ((v : Nat) : Int))).ownsRow base 5 1 (.slice (some ⟨g, 0, none⟩) n cap) n (bcells (xs.set k v)) := by
  refine ⟨by have := h.1; rw [bcells_len] at this ⊢; rw [List.length_set]; exact this, ?_⟩
  rcases h.2 with ⟨e, _⟩ | ⟨g', c, cur, e, hb, hc, h1, h2, h3, h4⟩
  · cases e
  · injection e with e1 e2 e3
    injection e1 with e1
    injection e1 with e1
    subst e1 e3
    refine .inr ⟨g, _, cur.setIfInBounds k (.int .u8 (v : Int)), rfl, hb, ?_, h1, h2, by simpa using h3, ?_⟩
    · rw [setCell_eq_setRow w g k cur 5 (0, 0) _ hc]
      exact setRow_heap w g _ _ 5 _ hc
    · rw [Array.toList_setIfInBounds, List.take_set, h4]
      simp [bcells, List.map_set]
theorem own_other {w w' : World} {base n g cap : Nat} {xs : List Value} (h : w.ownsRow base 5 1 (.slice (some ⟨g, 0, none⟩) n cap) n xs) (he : w'.heap[g]? = w.heap[g]?) : w'.ownsRow base 5 1 (.slice (some ⟨g, 0, none⟩) n cap) n xs := by
  refine ⟨h.1, ?_⟩
  rcases h.2 with h0 | ⟨g', c, cur, e, hb, hc, h1⟩
  · exact .inl h0
  · injection e with e1 e2 e3
    injection e1 with e1
    injection e1 with e1
    subst e1 e3
    exact .inr ⟨g, _, cur, rfl, hb, he.trans hc, h1⟩

set_option maxHeartbeats 2000000 in
set_option maxRecDepth 100000 in
theorem rstream_any (K B : Option Addr) (key b : List Nat) (nk ck n c : Nat) (w : World) (h3' : 6 ≤ w.heap.size) (hK : Txt Any w K nk ck key) (hnk : nk ≤ 32) (hB : Txt Any w B n c b) (hm : n ≤ 65536) :
    Calls Tryd.prog 19 #[.slice K nk ck, .slice B n c] w (OwnT (hide (kS key) b) w) := by
  have hl := hB.len
  have HK := Lib.hid hK; have HB := Lib.hid hB; clear hK hB
  obtain ⟨h, hh⟩ : ∃ h, hide (kS key) b = h := ⟨_, rfl⟩
  rw [hh]
  have HH : Hid (xr n (strm (kS key) n) b = h) := Lib.hid (by rw [← hh, ← hl]; rfl)
  have HHN : Hid (h.length = n) := Lib.hid (by rw [← hh, ← hl]; exact hide_len _ _)
  clear hh
  go_enter Tryd.func19, Tryd.ntmps19
  go_wp2_with fail
  refine (rlabel_any ⟨#[115, 116, 114, 101, 97, 109]⟩ (by decide) K key nk ck w HK.out hnk).mono ?_
  rintro e' w1 ⟨A1, n1, c1, rfl, hX1, hB1⟩
  have HX1 := Lib.hid hX1.any; have HB1 := Lib.hid hB1; clear hX1 hB1
  go_wp2_with fail
  refine (rshake_any A1 _ n1 c1 n w1 (by have := HB1.out.size; omega) HX1.out hm).mono ?_
  change ∀ e' w', OwnT (strm (kS key) n) w1 e' w' → _
  rintro e' w2 ⟨v, rfl, hO, hB2⟩
  rw [strm_len] at hO
  have HO := Lib.hid (show w2.ownsRow w.heap.size 5 1 v n (bcells (xrTo n (strm (kS key) n) b 0)) by rw [xrTo_zero (strm_len _ _)]; exact Kec.own_down hO HB1.out.size)
  have HB2 := Lib.hid (HB1.out.trans (hB2.mono HB1.out.size))
  obtain ⟨A', c', rfl⟩ := own_slice_of hO
  clear hO hB2
  go_wp2
  go_loopw [6] (fun i W => ∃ k : Nat, k ≤ n ∧ i = .int .i64 k ∧ Hid (W.ownsRow w.heap.size 5 1 (.slice A' n c') n (bcells (xrTo n (strm (kS key) n) b k))) ∧ Hid (Below w.heap.size w W)) (fun i _ => n - (intOf i).toNat)
  case atStart => exact ⟨0, by omega, rfl, HO, HB2⟩
  case round =>
    obtain ⟨k, hk, rfl, HRk, HBk⟩ := hrel
    by_cases hkn : k < n
    · obtain ⟨ad, rfl⟩ := HB.out.some (by omega)
      obtain ⟨g, rfl⟩ : ∃ g, A' = some ⟨g, 0, none⟩ := by
        rcases HRk.out.2 with ⟨e, _⟩ | ⟨g, _, _, e, _⟩
        · injection e with _ e _; omega
        · injection e with e _ _; exact ⟨g, e⟩
      have c0 := (HB.out.below HBk.out).cell k hkn
      obtain ⟨q1, f1, hg⟩ := own_at HRk.out k hkn
      rw [gt_xrTo hkn] at q1
      have hx := Sha.xor_bits8 (strm_lt (kS key) n k) (HB.out.lt k)
      have yk : (k : Int) < (n : Int) := by omega
      have HRn := Lib.hid (xrTo_succ (n := n) (s := strm (kS key) n) (b := b) hkn)
      go_wp2
      go_region
      go_wp2
      go_roundw
      case rel => exact ⟨k + 1, by omega, by go_num, Lib.hid (by rw [← HRn.out]; exact own_set HRk.out k _ hkn), Lib.hid (HBk.out.setCell hg _).drew⟩
      case measure => simp [intOf]; omega
    · obtain rfl : k = n := by omega
      have hxe : xrTo k (strm (kS key) k) b k = h := by rw [xrTo_all]; exact HH.out
      have HO3 := Lib.hid HRk.out
      rw [hxe] at HO3
      clear hxe
      go_wp2
      go_ret
      exact ⟨_, rfl, by rw [HHN.out]; exact HO3.out, HBk.out⟩
end Go.Proofs.YtfhibjpkbbbfpaaDoor.Bx
