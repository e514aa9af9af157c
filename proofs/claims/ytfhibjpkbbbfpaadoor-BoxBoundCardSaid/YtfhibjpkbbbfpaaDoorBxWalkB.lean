/- Walks: a key's own keys; what is unlike the stream. -/
import Derived.Test.YtfhibjpkbbbfpaaDoorBxWalkA
namespace Go.Proofs.YtfhibjpkbbbfpaaDoor.Bx
set_option linter.all false
open Go.RowKit Wr

theorem New.keep {lo : Nat} {w w' : World} (h : w.heap.size ≤ w'.heap.size) : ∀ b, New lo w b → New lo w' b := fun b hb => ⟨hb.1, Nat.lt_of_lt_of_le hb.2 h⟩
theorem keys_size : (Tryd.prog.info? 33).map (·.size) = some 2 := by kernel_rfl
set_option maxHeartbeats 2000000 in
set_option maxRecDepth 100000 in
theorem keysOf_any (A : Option Addr) (key : List Nat) (n c : Nat) (w : World) (hT : Tabs w) (hK : Txt Any w A n c key) (hm : n ≤ 32) :
    Calls Tryd.prog 13 #[.slice A n c] w fun e w' => ∃ A1 c1 A2 c2, e = .returned (.agg #[.slice A1 32 c1, .slice A2 32 c2]) ∧ Txt (New w.heap.size w') w' A1 32 c1 (kS key) ∧ Txt (New w.heap.size w') w' A2 32 c2 (kT key) ∧ Below w.heap.size w w' := by
  have hlt := hT.lt
  have HT := Lib.hid hT; have HK := Lib.hid hK; clear hT hK
  go_enter Tryd.func13, Tryd.ntmps13
  go_wp2_with fail
  have HBa := Lib.hid ((Below.refl w.heap.size w).alloc (Nat.le_refl _) (.cells #[.slice none 0 0, .slice none 0 0] 33))
  have HGa := Lib.hid (heap_alloc_last w (.cells #[.slice none 0 0, .slice none 0 0] 33))
  refine (label_any ⟨#[115, 116, 114, 101, 97, 109]⟩ (by decide) A key n c _ (HT.out.below HBa.out hlt) (HK.out.below HBa.out).any hm).mono ?_
  rintro e' w1 ⟨A1, n1, c1, rfl, hX1, hB1⟩
  obtain rfl : n1 = 32 := by rw [← hX1.len]; exact lb_len _ _
  have HX1 := Lib.hid hX1; have HB1 := Lib.hid (HBa.out.trans (hB1.mono HBa.out.size)); have HB1' := Lib.hid hB1; have HG1 := Lib.hid ((hB1.block _ (by simp)).trans HGa.out)
  clear hX1 hB1
  go_wp2_with fail
  refine (label_any ⟨#[116, 97, 103]⟩ (by decide) A key n c _ (HT.out.below HB1.out hlt) (HK.out.below HB1.out).any hm).mono ?_
  rintro e' w2 ⟨A2, n2, c2, rfl, hX2, hB2⟩
  obtain rfl : n2 = 32 := by rw [← hX2.len]; exact lb_len _ _
  have HX2 := Lib.hid (hX2.mono (New.mono HB1'.out.size)); have HX1' := Lib.hid ((HX1.out.below hB2).mono fun b h => New.keep hB2.size b h); have HB2 := Lib.hid (HB1.out.trans (hB2.mono HB1.out.size))
  have HG2 := Lib.hid ((hB2.block _ (Array.getElem?_eq_some_iff.1 HG1.out).1).trans HG1.out)
  clear hX2 hB2 HX1 HG1
  have f0 : ∀ i, w2.frozen? ⟨w.heap.size, i, none⟩ = false := fun i => by simp [World.frozen?, HG2.out]
  have c0 : w2.cell? ⟨w.heap.size, 0, none⟩ = some (.slice none 0 0) := by rw [cell_of_row _ _ 0 _ _ _ HG2.out]; rfl
  have c1' : w2.cell? ⟨w.heap.size, 1, none⟩ = some (.slice none 0 0) := by rw [cell_of_row _ _ 1 _ _ _ HG2.out]; rfl
  go_wp2
  obtain ⟨w3, hw3⟩ : ∃ w3, (w2.setCell ⟨w.heap.size, 0, none⟩ (.slice A1 32 c1)).setCell ⟨w.heap.size, 1, none⟩ (.slice A2 32 c2) = w3 := ⟨_, rfl⟩
  rw [hw3]
  have hg : w3.heap[w.heap.size]? = some (.cells #[.slice A1 32 c1, .slice A2 32 c2] 33 (0, 0)) := by
    rw [← hw3, setCell_eq_setRow w2 w.heap.size 0 _ _ _ _ HG2.out, setCell_eq_setRow _ w.heap.size 1 _ _ _ _ (setRow_heap _ _ _ _ _ _ HG2.out)]
    exact setRow_heap _ _ _ _ _ _ (setRow_heap _ _ _ _ _ _ HG2.out)
  have hsz : w2.heap.size ≤ w3.heap.size := by rw [← hw3]; simp [World.setCell]
  have hk : ∀ b, b ≠ w.heap.size → w3.heap[b]? = w2.heap[b]? := fun b hb => by
    rw [← hw3]
    exact (Below.heap_setCell _ _ _ b (fun e => hb e)).trans (Below.heap_setCell _ _ _ b (fun e => hb e))
  have hB3 : Below w.heap.size w w3 := by rw [← hw3]; exact (HB2.out.setCell (Nat.le_refl _) _).setCell (Nat.le_refl _) _
  have he : w.heap.size + 1 ≤ (w.alloc (.cells #[.slice none 0 0, .slice none 0 0] 33)).heap.size := by simp
  refine bodyPost_ret (v := .agg #[.slice A1 32 c1, .slice A2 32 c2]) (results_cell_row (p := 2) (ty := 33) (by kernel_rfl) _ _ w.heap.size 33 #[.slice A1 32 c1, .slice A2 32 c2] (0, 0) _ rfl hg Tryd.underlying33 rfl keys_size) rfl ⟨A1, c1, A2, c2, rfl, ?_, ?_, hB3⟩
  · exact (HX1'.out.kept hsz fun b hb _ => hk b (by have := hb.1; omega)).mono fun b hb => ⟨by have := hb.1; omega, Nat.lt_of_lt_of_le hb.2 hsz⟩
  · exact (HX2.out.kept hsz fun b hb _ => hk b (by have := hb.1; omega)).mono fun b hb => ⟨by have := hb.1; omega, Nat.lt_of_lt_of_le hb.2 hsz⟩

theorem xor_bits8 {a b : Nat} (ha : a < 256) (hb : b < 256) : bits .xor .u8 (a : Int) (b : Int) = ((a ^^^ b : Nat) : Int) := Sha.xor_bits8 ha hb
set_option maxHeartbeats 2000000 in
set_option maxRecDepth 100000 in
theorem crossed_any (A1 A2 : Option Addr) (c1 c2 : Nat) (ks kt b : List Nat) (B : Option Addr) (n c : Nat) (w : World) (hT : Tabs w) (hK : Txt Any w A1 32 c1 ks) (hB : Txt Any w B n c b) (hm : n ≤ 65536) :
    Calls Tryd.prog 14 #[.agg #[.slice A1 32 c1, .slice A2 32 c2], .slice B n c] w (Wr.Told (hide ks b) w) := by
  have hlt := hT.lt
  have hl := hB.len
  have HT := Lib.hid hT; have HK := Lib.hid hK; have HB := Lib.hid hB; clear hT hK hB
  have HBa := Lib.hid ((Below.refl w.heap.size w).alloc (Nat.le_refl _) (.cells #[.slice A1 32 c1, .slice A2 32 c2] 33))
  obtain ⟨h, hh⟩ : ∃ h, hide ks b = h := ⟨_, rfl⟩
  rw [hh]
  have HH : Hid (xr n (strm ks n) b = h) := Lib.hid (by rw [← hh, ← hl]; rfl)
  have HHL : Hid (∀ j, gt h j < 256) := Lib.hid (by rw [← hh]; exact hide_lt _ HB.out.lt)
  clear hh
  go_enter Tryd.func14, Tryd.ntmps14
  go_wp2_with fail
  refine (shake_any A1 ks 32 c1 n _ (HT.out.below HBa.out hlt) (HK.out.below HBa.out) hm).mono ?_
  rintro e' w1 ⟨g, rfl, h1, h2, hB1⟩
  rw [strm_len] at h2 ⊢
  have HR1 := Lib.hid (show w1.rowIs g 5 n (wordRow .u8 (xrTo n (strm ks n) b 0)) by rw [xrTo_zero (strm_len _ _)]; exact h2)
  have HB1 := Lib.hid (HBa.out.trans (hB1.mono HBa.out.size))
  have hg1 : w.heap.size < g := by have : (w.alloc (.cells #[.slice A1 32 c1, .slice A2 32 c2] 33)).heap.size = w.heap.size + 1 := by simp
                                   omega
  clear h1 h2 hB1
  go_wp2
  go_loopw [15] (fun i W => ∃ k : Nat, k ≤ n ∧ i = .int .i64 k ∧ Hid (W.rowIs g 5 n (wordRow .u8 (xrTo n (strm ks n) b k))) ∧ Hid (Below w.heap.size w W)) (fun i _ => n - (intOf i).toNat)
  case atStart => exact ⟨0, by omega, rfl, HR1, HB1⟩
  case round =>
    obtain ⟨k, hk, rfl, HRk, HBk⟩ := hrel
    by_cases hkn : k < n
    · obtain ⟨ad, rfl⟩ := HB.out.some (by omega)
      have c0 := (HB.out.below HBk.out).cell k hkn
      have c1' := HRk.out.cell (i := k) hkn
      have f1 := HRk.out.frozen k
      rw [show wordRow .u8 (xrTo n (strm ks n) b k) k = .int .u8 ((gt (strm ks n) k : Nat) : Int) by unfold wordRow; rw [gt_xrTo hkn]] at c1'
      have hx := xor_bits8 (strm_lt ks n k) (HB.out.lt k)
      have yk : (k : Int) < (n : Int) := by omega
      have HRn := Lib.hid (xrTo_succ (n := n) (s := strm ks n) (b := b) hkn)
      go_wp2
      go_roundw
      case rel => exact ⟨k + 1, by omega, by go_num, Lib.hid (by rw [← HRn.out]; exact row_set HRk.out (tab_len _ _) k _ hkn), Lib.hid (HBk.out.setCell (by show w.heap.size ≤ g; omega) _)⟩
      case measure => simp [intOf]; omega
    · obtain rfl : k = n := by omega
      go_wp2
      go_ret
      exact ⟨_, _, _, rfl, Txt.of_row (bs := h) (HRk.out.congr fun i hi => by rw [← HH.out, ← xrTo_all]; rfl) (by rw [← HH.out]; exact xr_len _ _ _) HHL.out (by omega) (by omega), HBk.out⟩
end Go.Proofs.YtfhibjpkbbbfpaaDoor.Bx
