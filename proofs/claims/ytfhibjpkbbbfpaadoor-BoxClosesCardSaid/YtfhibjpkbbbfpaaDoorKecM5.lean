/- Walks of the document's own: lay, New; its words loaded and stored whole. Walks of the document's own: Write. Walks of the document's own: Read. Walks of the document's own: Read, behind the turning; the calls in one form. Written by tools/mk_krefg.py. All answers in one form: the program's four functions, and the document's. -/
import Derived.Test.YtfhibjpkbbbfpaaDoorKecM4
import Derived.Test.YtfhibjpkbbbfpaaDoorKecM3
import Derived.Deep.MidRow
import Derived.IntWalk
import Derived.Deep.RegionHeld3
import Derived.Deep.DeepMust
namespace Go.Proofs.YtfhibjpkbbbfpaaDoor.Kec
set_option linter.all false
open Go.RowKit

theorem rowIs_setCells {b : Nat} {t : TypeId} {n : Nat} : ∀ (vs : List Value) (o : Nat) (w : World) (f : Nat → Value), w.rowIs b t n f → (w.setCells b o vs).rowIs b t n (fun j => if o ≤ j ∧ j < o + vs.length then vs.getD (j - o) undef else f j)
  | [], o, w, f, h => h.congr fun j _ => by rw [if_neg (by rintro ⟨h1, h2⟩; simp at h2; omega)]
  | v :: vs, o, w, f, h => by
    refine (rowIs_setCells vs (o + 1) (w.setCell ⟨b, o, none⟩ v) _ (h.set o v)).congr fun j _ => ?_
    by_cases h1 : o + 1 ≤ j ∧ j < o + 1 + vs.length
    · rw [if_pos h1, if_pos (by simp; omega)]
      rw [show j - o = (j - (o + 1)) + 1 by omega]; rfl
    · rw [if_neg h1]
      by_cases h2 : j = o
      · subst h2; rw [if_pos rfl, if_pos (by simp)]; simp
      · rw [if_neg h2, if_neg (by simp at h1 ⊢; omega)]
theorem only_setCells {a : World} {b : Nat} : ∀ (vs : List Value) (o : Nat) (w : World), a.grownBy w (some b) → a.grownBy (w.setCells b o vs) (some b)
  | [], _, _, h => h
  | v :: vs, o, w, h => only_setCells vs (o + 1) (w.setCell ⟨b, o, none⟩ v) (only_set h (.inl rfl) v)
section
variable {w : World} {b n o : Nat} {t : TypeId} {f : Nat → Value} {ws us : List Nat}
theorem words_at (us : List Nat) (j : Nat) (h : j < us.length) : (words us).toList[j]? = some (.int .u64 ((gt us j : Nat) : Int)) := by
  rw [Array.getElem?_toList]; exact numsOf_at .u64 us j h
theorem St.range (h : St w b t n f o ws) (hl : ws.length = 25) : w.rangeAt b o (words ws).toList := by
  intro j v hv
  have hj : j < 25 := by
    rcases Nat.lt_or_ge j 25 with h | h
    · exact h
    · rw [List.getElem?_eq_none (by simp [words_size]; omega)] at hv; cases hv
  rw [words_at ws j (by omega)] at hv
  rw [h.cell j hj, ← hv]
theorem St.there (h : St w b t n f o ws) : w.there b o 25 := fun j hj => ⟨by rw [h.cell j hj]; rfl, h.frozen _⟩
theorem St.cells (h : St w b t n f o ws) (hl : us.length = 25) : St (w.setCells b o (words us).toList) b t n f o us := by
  refine ⟨h.1, (rowIs_setCells _ _ _ _ h.2).congr fun j _ => ?_⟩
  have hs : (words us).toList.length = 25 := by simp [words_size, hl]
  rw [hs]
  unfold put
  by_cases hj : o ≤ j ∧ j < o + 25
  · rw [if_pos hj, if_pos hj, List.getD_eq_getElem?_getD, words_at us _ (by omega)]; rfl
  · rw [if_neg hj, if_neg hj, if_neg hj]
end

def RSp (w : World) (g r e : Nat) (gv : Bool) (s : Nat × List Nat) : Prop := St w g 85 29 (spF r e s.1 gv) 2 (tp s.2)
section
variable {w : World} {g r e : Nat} {gv : Bool} {s : Nat × List Nat}
theorem RSp.rate (h : RSp w g r e gv s) : w.cell? ⟨g, 0, none⟩ = some (.int .i64 (r : Nat)) := by
  rw [h.2.cell (by omega), put_out _ _ _ _ (by omega)]; rfl
theorem RSp.end_ (h : RSp w g r e gv s) : w.cell? ⟨g, 1, none⟩ = some (.int .u8 (e : Nat)) := by
  rw [h.2.cell (by omega), put_out _ _ _ _ (by omega)]; rfl
theorem RSp.at_ (h : RSp w g r e gv s) : w.cell? ⟨g, 27, none⟩ = some (.int .i64 (s.1 : Nat)) := by
  rw [h.2.cell (by omega), put_out _ _ _ _ (by omega)]; rfl
theorem RSp.gives (h : RSp w g r e gv s) : w.cell? ⟨g, 28, none⟩ = some (.bool gv) := by
  rw [h.2.cell (by omega), put_out _ _ _ _ (by omega)]; rfl
theorem RSp.frozen (h : RSp w g r e gv s) (i : Nat) : w.frozen? ⟨g, i, none⟩ = false := h.2.frozen i
theorem RSp.setAt (h : RSp w g r e gv s) (a : Nat) : RSp (w.setCell ⟨g, 27, none⟩ (.int .i64 (a : Nat))) g r e gv (a, s.2) := by
  refine ⟨h.1, (h.2.set 27 (.int .i64 (a : Nat))).congr fun j hj => ?_⟩
  by_cases e27 : j = 27
  · subst e27; rw [if_pos rfl, put_out _ _ _ _ (by omega)]; rfl
  · rw [if_neg e27]
    unfold put
    split
    · rfl
    · unfold spF
      split <;> first | rfl | omega | simp_all
theorem RSp.setGives (h : RSp w g r e gv s) (b : Bool) : RSp (w.setCell ⟨g, 28, none⟩ (.bool b)) g r e b s := by
  refine ⟨h.1, (h.2.set 28 (.bool b)).congr fun j hj => ?_⟩
  by_cases e27 : j = 28
  · subst e27; rw [if_pos rfl, put_out _ _ _ _ (by omega)]; rfl
  · rw [if_neg e27]
    unfold put
    split
    · rfl
    · unfold spF
      split <;> first | rfl | omega | simp_all
end
theorem rchange_words (ws : List Nat) (w : World) (hO : Ok ws) :
    Calls Tryd.prog 64 #[.agg (words (tp ws))] w fun e w' => e = .returned (.agg (words (tp (change ws)))) ∧ Below w.heap.size w w' := by
  have := rchange_any (tp ws) w (ok_tp hO)
  rw [change_tp hO 24 (Nat.le_refl _)] at this
  exact this

set_option maxHeartbeats 1000000 in
set_option maxRecDepth 100000 in
theorem rlay_any (g r e i v : Nat) (gv : Bool) (s : Nat × List Nat) (w : World) (hi : i < 200) (hv : v < 256) (hS : RSp w g r e gv s) (hO : Ok s.2) :
    Calls Tryd.prog 63 #[.pointer (some ⟨g, 0, none⟩), .int .i64 i, .int .u8 v] w fun e' w' => e' = .returned (.tuple #[]) ∧ RSp w' g r e gv (s.1, lay s.2 i v) ∧ w.grownBy w' (some g) := by
  obtain ⟨a, ws⟩ := s
  have hx : gt (tp ws) (5 * (i / 8 % 5) + i / 8 / 5) = gt ws (i / 8) := gt_tp ws (i / 8) (by omega)
  have c0 : w.cell? ⟨g, 2 + i / 8 % 5 * 5 + i / 8 / 5, none⟩ = some (.int .u64 (gt ws (i / 8) : Nat)) := by
    have := hS.cell (5 * (i / 8 % 5) + i / 8 / 5) (by omega)
    rw [hx] at this
    rw [← this]; congr 2; omega
  have f0 := hS.frozen (2 + i / 8 % 5 * 5 + i / 8 / 5)
  have hxr := layw_bits ws i v hO
  have HS := Lib.hid hS; have HO := Lib.hid hO; clear hS hO hx
  go_enter Tryd.func63, Tryd.ntmps63
  go_wp2
  go_region
  go_end0
  refine ⟨rfl, ?_, only_drew (only_set (World.grownBy.refl _ _) (.inl rfl) _)⟩
  have h1 := St.set HS.out (ok_tp HO.out).1 (5 * (i / 8 % 5) + i / 8 / 5) (layw ws i v) (by omega)
  rw [tp_set HO.out.1 (i / 8) (layw ws i v) (by omega)] at h1
  have e : 2 + (5 * (i / 8 % 5) + i / 8 / 5) = 2 + i / 8 % 5 * 5 + i / 8 / 5 := by omega
  rw [e] at h1
  exact h1.drew

set_option maxHeartbeats 1000000 in
set_option maxRecDepth 100000 in
theorem rnew_bad (r : Int) (e : Nat) (w : World) (h : r < 8 ∨ 192 < r ∨ r % 8 ≠ 0) :
    Calls Tryd.prog 50 #[.int .i64 r, .int .u8 e] w fun e' w' => e' = .returned (.pointer none) ∧ w = w' := by
  by_cases h1 : r < 8
  · go_enter Tryd.func50, Tryd.ntmps50
    go_wp2
    go_ret
    exact ⟨rfl, rfl⟩
  · by_cases h2 : 192 < r
    · go_enter Tryd.func50, Tryd.ntmps50
      go_wp2
      go_ret
      exact ⟨rfl, rfl⟩
    · have h3 : (r % 8 != 0) = true := by rw [bne_iff_ne]; omega
      go_enter Tryd.func50, Tryd.ntmps50
      go_wp2
      go_ret
      exact ⟨rfl, rfl⟩
theorem tp_zeros : tp zeros = zeros := by decide +kernel

set_option maxHeartbeats 1000000 in
set_option maxRecDepth 100000 in
theorem rnew_any (r e : Nat) (w : World) (h1 : 8 ≤ r) (h2 : r ≤ 192) (h3 : r % 8 = 0) :
    Calls Tryd.prog 50 #[.int .i64 r, .int .u8 e] w fun e' w' => e' = .returned (.pointer (some ⟨w.heap.size, 0, none⟩)) ∧ RSp w' w.heap.size r e false start ∧ Below w.heap.size w w' ∧ w'.heap.size = w.heap.size + 1 := by
  have hd : ((r : Int) % 8 != 0) = false := by rw [bne_eq_false_iff_eq]; omega
  have h4 : ¬ ((r : Int) < 8) := by omega
  have h5 : ¬ (192 < (r : Int)) := by omega
  clear h3
  go_enter Tryd.func50, Tryd.ntmps50
  go_wp2
  go_ret
  refine ⟨rfl, ?_, (Below.refl _ _).alloc (Nat.le_refl _) _, by simp⟩
  unfold RSp
  rw [show tp start.2 = zeros from tp_zeros]
  exact ⟨by omega, World.rowIs_alloc w _ 85 (put (spF r e 0 false) 2 zeros) fun i hi => new_cells r e i hi⟩

end Go.Proofs.YtfhibjpkbbbfpaaDoor.Kec

namespace Go.Proofs.YtfhibjpkbbbfpaaDoor.Kec
set_option linter.all false
open Go.RowKit

theorem tp_size (ws : List Nat) : (Tryd.prog.info? 83).map (·.size) = some (words (tp ws)).toList.length := by
  simp only [Array.length_toList, words_size]; rw [show (tp ws).length = 25 from tab_len _]; kernel_rfl
theorem tp_size' (ws : List Nat) : (Tryd.prog.info? 83).map (·.size) = some (words (tp ws)).size := by
  rw [words_size, show (tp ws).length = 25 from tab_len _]; kernel_rfl
theorem tp_there {w w1 : World} {g r e : Nat} {gv : Bool} {s : Nat × List Nat} (h : RSp w g r e gv s) (hB : Below w.heap.size w w1) (us : List Nat) : w1.there g 2 (words (tp us)).size := by
  rw [words_size, show (tp us).length = 25 from tab_len _]
  exact (h.of_block (hB.block g h.lt)).there
theorem RSp.chg {w w1 : World} {g r e : Nat} {gv : Bool} {s : Nat × List Nat} (h : RSp w g r e gv s) (hB : Below w.heap.size w w1) (us : List Nat) : RSp (w1.setCells g 2 (words (tp us)).toList) g r e gv (s.1, us) :=
  (h.of_block (hB.block g h.lt)).cells (tab_len _)
theorem only_chg {a w w1 : World} {g : Nat} (h : a.grownBy w (some g)) (hB : Below w.heap.size w w1) (us : List Nat) : a.grownBy (w1.setCells g 2 (words (tp us)).toList) (some g) :=
  only_setCells _ _ _ (only_then h (only_of_below hB (some g)) (.inl rfl))
theorem RSp.ch {w w1 w2 : World} {g r e : Nat} {gv : Bool} {a : Nat} {ws us : List Nat} (h : RSp w g r e gv (a, ws)) (hB : Below w.heap.size w w1) (hl : us.length = 25) : St (w1.setCells g 2 (words us).toList) g 85 29 (spF r e a gv) 2 us :=
  (h.of_block (hB.block g h.lt)).cells hl

set_option maxHeartbeats 2000000 in
set_option maxRecDepth 100000 in
theorem rwrite_gives (g r e : Nat) (s : Nat × List Nat) (A : Option Addr) (n c : Nat) (w : World) (hS : RSp w g r e true s) (hm : n ≤ 9223372036854775807) :
    Calls Tryd.prog 51 #[.pointer (some ⟨g, 0, none⟩), .slice A n c] w fun e' w' => e' = .returned (.tuple #[]) ∧ w = w' := by
  have c0 := hS.gives
  clear hS
  by_cases h0 : 0 < n
  · go_enter Tryd.func51, Tryd.ntmps51
    go_wp2
    refine wp_loop_rounds 1 ?_
    rw [rounds_succ]
    go_wp2
    go_end0
    exact ⟨rfl, rfl⟩
  · go_enter Tryd.func51, Tryd.ntmps51
    go_wp2
    refine wp_loop_rounds 1 ?_
    rw [rounds_succ]
    go_wp2
    go_end0
    exact ⟨rfl, rfl⟩

set_option maxHeartbeats 1000000 in
set_option maxRecDepth 100000 in
theorem rwrite_any (g r e B : Nat) (s : Nat × List Nat) (A : Option Addr) (bs : List Nat) (n c : Nat) (w : World) (hS : RSp w g r e false s) (hG : Good r s) (hr : r ≤ 192) (hb : 6 ≤ g)
    (hR : Rd w B A bs) (hB : B ≤ g) (hn : bs.length = n) (hm : n ≤ 9223372036854775807) :
    Calls Tryd.prog 51 #[.pointer (some ⟨g, 0, none⟩), .slice A n c] w fun e' w' => e' = .returned (.tuple #[]) ∧ RSp w' g r e false (takeAll r s bs) ∧ w.grownBy w' (some g) := by
  have hlt : g < w.heap.size := hS.2.lt
  have HS := Lib.hid hS; have HG := Lib.hid hG; have HR := Lib.hid hR; have HN := Lib.hid hn; clear hS hG hR hn
  go_enter Tryd.func51, Tryd.ntmps51
  go_wp2
  go_loopw [4] (fun i W => ∃ k : Nat, k ≤ n ∧ i = .int .i64 k ∧ Hid (RSp W g r e false (takeAll r s (bs.take k))) ∧ Hid (w.grownBy W (some g))) (fun i _ => n - (intOf i).toNat)
  case atStart => exact ⟨0, by omega, rfl, HS, Lib.hid (World.grownBy.refl _ _)⟩
  case round =>
    obtain ⟨k, hk, rfl, HS1, HG1⟩ := hrel
    have cg := HS1.out.gives
    by_cases hkn : k < n
    · obtain ⟨hb256, hR1⟩ := HR.out.grown HG1.out hB (by omega)
      obtain ⟨ad, rfl, hadB, hcell⟩ := hR1 (by rw [HN.out]; omega)
      have c0 := hcell k (by rw [HN.out]; exact hkn)
      have hv := hb256 k
      clear hR1 hcell hb256
      have hgood := good_takeAll hr (bs.take k) HG.out
      have hsn := takeAll_snoc r s bs k (by rw [HN.out]; exact hkn)
      generalize takeAll r s (bs.take k) = s1 at *
      obtain ⟨a, ws⟩ := s1
      have ha : a < r := hgood.1
      have HGD := Lib.hid hgood; have HSN := Lib.hid hsn; clear hgood hsn
      have c1 := HS1.out.at_
      dsimp only at c1
      have hk0 : (0 : Int) ≤ (k : Int) := by omega
      have hkn' : (k : Int) < (n : Int) := by omega
      go_wp2
      refine wp_region_still_tail 9 (by kernel_rfl) (by kernel_rfl) ?_
      simp only [List.take_succ_cons, List.take_zero, List.drop_succ_cons, List.drop_zero]
      repeat still_step
      refine wpStill_nil ?_
      change wpList _ _ _ _ _ wr.drew
      go_wp2_with fail
      refine (rlay_any g r e a (gt bs k) false (a, ws) _ (by omega) hv HS1.out.drew HGD.out.2).mono ?_
      rintro e' w1 ⟨rfl, hS2, hG2⟩
      have HS2 : Hid (RSp w1 g r e false (a, lay ws a (gt bs k))) := Lib.hid hS2
      have HG2 := Lib.hid (only_then (only_drew HG1.out) hG2 (.inl rfl))
      have HO2 := Lib.hid (ok_lay HGD.out.2 a (gt bs k) (by omega))
      clear hS2 hG2 c1 c0 cg
      generalize hlay : lay ws a (gt bs k) = w2s at *
      have HLAY := Lib.hid hlay; clear hlay
      have cr := HS2.out.rate
      have ca := HS2.out.at_
      have fa := HS2.out.frozen 27
      dsimp only at ca
      by_cases h : a + 1 = r
      · have hd : ((a : Int) + 1 == (r : Int)) = true := by rw [beq_iff_eq]; omega
        have HH := Lib.hid h; clear h
        have HSN2 : Hid (takeAll r s (bs.take (k + 1)) = (0, change w2s)) := Lib.hid (by rw [HSN.out, takeOne, stepAt, if_pos HH.out, HLAY.out])
        go_wp2
        go_quiet (fail)
        have HS3 : Hid (RSp ((w1.setCell ⟨g, 27, none⟩ (.int .i64 ((a : Int) + 1))).drewN nq) g r e false (a + 1, w2s)) := Lib.hid (HS2.out.setAt (a + 1))
        have HG3 := Lib.hid (only_drewN (only_set HG2.out (p := ⟨g, 27, none⟩) (.inl rfl) (.int .i64 ((a : Int) + 1))) nq)
        generalize (w1.setCell ⟨g, 27, none⟩ (.int .i64 ((a : Int) + 1))).drewN nq = w3 at *
        clear cr ca fa HS2 HG2
        go_wp2_with (refine wpList_load_mid (op := ⟨some 48, .load 83 (.tmp 47), _, _, _, none⟩) rfl 83 (.tmp 47) rfl g 2 (by rfl) (words (tp w2s)).toList _ (HS3.out.range (tab_len _)) Tryd.underlying83 rfl (tp_size w2s) ?_)
        refine (rchange_words w2s _ HO2.out).mono ?_
        rintro e' w4 ⟨rfl, hB4⟩
        have HB4 := Lib.hid hB4; clear hB4
        generalize change w2s = m2 at *
        go_wp2_with ((refine wpList_store_mid (op := ⟨none, .store 83 (.tmp 51) (.tmp 49), _, _, _, none⟩) rfl 83 (.tmp 51) (.tmp 49) rfl g 2 (words (tp m2)) (by rfl) (by rfl) (tp_there HS3.out HB4.out m2) (tp_size' m2) (words_one _) ?_); have HS5 := Lib.hid (HS3.out.chg HB4.out m2); have HG5 := Lib.hid (only_chg HG3.out HB4.out m2); generalize w4.setCells g 2 (words (tp m2)).toList = w5 at *; have ca := HS5.out.at_; have fa := HS5.out.frozen 27; dsimp only at ca)
        go_roundw
        case rel => exact ⟨k + 1, by omega, by go_num, Lib.hid (by rw [HSN2.out]; exact HS5.out.setAt 0), Lib.hid (only_set HG5.out (.inl rfl) _)⟩
        case measure => simp [intOf]; omega
      · have hd : ((a : Int) + 1 == (r : Int)) = false := by rw [beq_eq_false_iff_ne]; omega
        have HH := Lib.hid h; clear h
        have HSN2 : Hid (takeAll r s (bs.take (k + 1)) = (a + 1, w2s)) := Lib.hid (by rw [HSN.out, takeOne, stepAt, if_neg HH.out, HLAY.out])
        go_wp2
        go_quiet (fail)
        go_wp2
        go_roundw
        case rel => exact ⟨k + 1, by omega, by go_num, Lib.hid (by rw [HSN2.out]; exact HS2.out.setAt (a + 1)), Lib.hid (only_drewN (only_set HG2.out (.inl rfl) _) _)⟩
        case measure => simp [intOf]; omega
    · obtain rfl : k = n := by omega
      go_wp2
      go_end0
      refine ⟨rfl, ?_, HG1.out⟩
      have := HS1.out
      rwa [List.take_of_length_le (by rw [HN.out]; omega)] at this

end Go.Proofs.YtfhibjpkbbbfpaaDoor.Kec

namespace Go.Proofs.YtfhibjpkbbbfpaaDoor.Kec
set_option linter.all false
open Go.RowKit

/-- the document changes late: behind the rate's last byte, when the next one is asked for -/
def normR (r : Nat) (p : Nat × List Nat) : Nat × List Nat := if p.1 = r then (0, change p.2) else p
def LzAt (W : World) (g r e : Nat) (s : Nat × List Nat) (k : Nat) : Prop := ∃ a ws, RSp W g r e true (a, ws) ∧ a ≤ r ∧ Ok ws ∧ normR r (a, ws) = after r s k
theorem ownNe {w : World} {B g n : Nat} {v : Value} {xs : List Value} (h : w.ownsRow B 5 1 v n xs) (hB : g < B) : v.ownBlock = none ∨ v.ownBlock ≠ some g := by
  cases hq : v.ownBlock with
  | none => exact .inl rfl
  | some x => exact .inr (by have := (h.lt x hq).1; intro e; injection e; omega)
theorem ownNone {w : World} {B n : Nat} {v : Value} {xs : List Value} (_h : w.ownsRow B 5 1 v n xs) : v.ownBlock = none ∨ v.ownBlock ≠ none := by
  cases v.ownBlock <;> simp
theorem byte_tp (ws : List Nat) (a : Nat) (h : a < 200) : ((gt (tp ws) (5 * (a / 8 % 5) + a / 8 / 5) : Nat) : Int) / 2 ^ (8 * (a % 8)) % 256 = ((byteAt ws a : Nat) : Int) := by
  rw [gt_tp ws (a / 8) (by omega)]; exact byteAt_bits ws a
theorem ownNe' {w : World} {B g n : Nat} {v : Value} {xs : List Value} (h : w.ownsRow B 5 1 v n xs) (hB : g < B) : some g ≠ v.ownBlock := by
  intro e
  have := (h.lt g e.symm).1
  omega
theorem grown_own {a w w' wx : World} {g n : Nat} {v : Value} {xs : List Value} (h : a.grownBy w (some g)) (k : w.grownBy w' v.ownBlock) (ho : wx.ownsRow a.heap.size 5 1 v n xs) : a.grownBy w' (some g) :=
  ⟨k.os.trans h.os, k.tape.trans h.tape, k.output.trans h.output, Nat.le_trans h.size k.size, fun i hi hne =>
    (k.block i (Nat.lt_of_lt_of_le hi h.size) (fun e => by have := (ho.lt i e.symm).1; omega)).trans (h.block i hi hne)⟩
theorem news_one (w : World) (v : Value) : ∀ j u, [v][j]? = some u → ((w.alloc (.cells #[v] 5)).drew).cell? ((⟨w.heap.size, 0, none⟩ : Addr).add j) = some u := by
  intro j u hu
  cases j with
  | zero =>
    have : u = v := by simpa using hu.symm
    subst this
    have := cell_of_row (w.alloc (.cells #[u] 5)) w.heap.size 0 _ 5 (0, 0) (heap_alloc_last w _)
    simp only [Addr.add, if_pos]
    exact this
  | succ j => simp at hu
theorem byte_zero (ws : List Nat) : ((gt (tp ws) 0 : Nat) : Int) % 256 = ((byteAt ws 0 : Nat) : Int) := by
  have := byte_tp ws 0 (by omega)
  simpa using this
theorem one_val (x : Int) : ∀ u ∈ [Value.int .u8 x], u.oneCell' = true := fun u hu => by rw [List.mem_singleton.1 hu]; rfl
theorem outs_succ (r : Nat) (s : Nat × List Nat) (k : Nat) : outs r s (k + 1) = outs r s k ++ [outAt r s k] := by
  unfold outs; rw [List.range_succ, List.map_append]; rfl
set_option maxHeartbeats 1000000 in
set_option maxRecDepth 100000 in
theorem rread_bad (g : Nat) (n : Int) (w : World) (h : n < 0 ∨ 65536 < n) :
    Calls Tryd.prog 52 #[.pointer (some ⟨g, 0, none⟩), .int .i64 n] w fun e' w' => e' = .returned (.slice none 0 0) ∧ w = w' := by
  by_cases h1 : n < 0
  · go_enter Tryd.func52, Tryd.ntmps52
    go_wp2
    go_ret
    exact ⟨rfl, rfl⟩
  · have h2 : 65536 < n := by omega
    go_enter Tryd.func52, Tryd.ntmps52
    go_wp2
    go_ret
    exact ⟨rfl, rfl⟩

set_option maxHeartbeats 6000000 in
set_option maxRecDepth 100000 in
theorem rread_gives (g r e : Nat) (s p : Nat × List Nat) (n : Nat) (W0 : World) (hLZ : LzAt W0 g r e s 0) (hr : r ≤ 192) (hr0 : 0 < r) (hn : n ≤ 65536) :
    Calls Tryd.prog 52 #[.pointer (some ⟨g, 0, none⟩), .int .i64 n] W0 fun e' w' => ∃ v, e' = .returned v ∧ w'.ownsRow W0.heap.size 5 1 v n (bcells (outs r s n)) ∧ LzAt w' g r e s n ∧ W0.grownBy w' (some g) := by
  have hlt : g < W0.heap.size := by obtain ⟨a, ws, h, _⟩ := hLZ; exact h.2.lt
  have c0 : W0.cell? ⟨g, 28, none⟩ = some (.bool true) := by obtain ⟨a, ws, h, _⟩ := hLZ; exact h.gives
  have HLZ := Lib.hid hLZ; clear hLZ
  have h1 : ¬ ((n : Int) < 0) := by omega
  have h2 : ¬ (65536 < (n : Int)) := by omega
  go_enter Tryd.func52, Tryd.ntmps52
  go_wp2
  clear c0
  go_loopw [5, 6] (fun o i W => ∃ k : Nat, k ≤ n ∧ i = .int .i64 k ∧ Hid (W.ownsRow W0.heap.size 5 1 o k (bcells (outs r s k))) ∧ Hid (LzAt W g r e s k) ∧ Hid (W0.grownBy W (some g))) (fun _ i _ => n - (intOf i).toNat)
  case atStart => exact ⟨0, by omega, rfl, Lib.hid (World.ownsRow_nil _ _ _ _), HLZ, Lib.hid (World.grownBy.refl _ _)⟩
  case round =>
    obtain ⟨k, hk, rfl, HO1, HL1, HG1⟩ := hrel
    obtain ⟨a, ws, hS1, hle, hok, hnorm⟩ := HL1.out
    have HS1 := Lib.hid hS1; have HOK := Lib.hid hok; have HNM := Lib.hid hnorm; clear hS1 hok hnorm HL1
    by_cases hkn : k < n
    · have hkn' : (k : Int) < (n : Int) := by omega
      have cr := HS1.out.rate
      have ca := HS1.out.at_
      dsimp only at ca
      by_cases har : a = r
      · have hd : ((a : Int) == (r : Int)) = true := by rw [beq_iff_eq]; omega
        have HNM1 : Hid (after r s k = (0, change ws)) := Lib.hid (by rw [← HNM.out, normR, if_pos har])
        have HAR := Lib.hid har; clear har
        go_wp2
        go_quiet (fail)
        have HS3 : Hid (RSp (wr.drewN nq) g r e true (a, ws)) := Lib.hid HS1.out
        have HG3 := Lib.hid (only_drewN HG1.out nq)
        have HO3 : Hid ((wr.drewN nq).ownsRow W0.heap.size 5 1 u5 k (bcells (outs r s k))) := Lib.hid HO1.out
        generalize wr.drewN nq = w3 at *
        clear cr ca HS1 HG1 HO1
        go_wp2_with (refine wpList_load_mid (op := ⟨some 68, .load 83 (.tmp 67), _, _, _, none⟩) rfl 83 (.tmp 67) rfl g 2 (by rfl) (words (tp ws)).toList _ (HS3.out.range (tab_len _)) Tryd.underlying83 rfl (tp_size ws) ?_)
        refine (rchange_words ws _ HOK.out).mono ?_
        rintro e' w4 ⟨rfl, hB4⟩
        have HB4 := Lib.hid hB4; clear hB4
        have hokc := ok_change HOK.out
        generalize change ws = m2 at *
        have HOKC := Lib.hid hokc; clear hokc
        go_wp2_with ((refine wpList_store_mid (op := ⟨none, .store 83 (.tmp 71) (.tmp 69), _, _, _, none⟩) rfl 83 (.tmp 71) (.tmp 69) rfl g 2 (words (tp m2)) (by rfl) (by rfl) (tp_there HS3.out HB4.out m2) (tp_size' m2) (words_one _) ?_); have HS5 := Lib.hid (HS3.out.chg HB4.out m2); have HG5 := Lib.hid (only_chg HG3.out HB4.out m2); have HO5 := Lib.hid ((HO3.out.kept (only_of_below HB4.out none) (ownNone HO3.out)).kept (only_setCells (words (tp m2)).toList 2 w4 (World.grownBy.refl w4 (some g))) (ownNe HO3.out hlt)); generalize w4.setCells g 2 (words (tp m2)).toList = w5 at *; have ca := HS5.out.at_; have fa := HS5.out.frozen 27; dsimp only at ca)
        have HS6 : Hid (RSp (w5.setCell ⟨g, 27, none⟩ (.int .i64 0)) g r e true (0, m2)) := Lib.hid (HS5.out.setAt 0)
        have HG6 := Lib.hid (only_set HG5.out (p := ⟨g, 27, none⟩) (.inl rfl) (.int .i64 0))
        have HO6 := Lib.hid (ownsRow_setCell_below (a := ⟨g, 27, none⟩) HO5.out hlt (.int .i64 0))
        generalize w5.setCell ⟨g, 27, none⟩ (.int .i64 0) = w6 at *
        clear ca fa
        as_aux_lemma =>
        have cr6 := HS6.out.at_
        have fa6 := HS6.out.frozen 27
        have cw6 : w6.cell? ⟨g, 2, none⟩ = some (.int .u64 (gt (tp m2) 0 : Nat)) := by
          exact HS6.out.cell 0 (by omega)
        have HBT := Lib.hid (byte_zero m2)
        dsimp only at cr6
        obtain ⟨bi, hbi, hbz, hbs, hbb⟩ := byteInfo
        have HBI := Lib.hid hbi; have HBZ := Lib.hid hbz; have HBS := Lib.hid hbs; have HBB := Lib.hid hbb; clear hbi hbz hbs hbb
        have hb0 : W0.heap.size ≤ w6.heap.size := HG6.out.size
        have z1 : (0 : Int).tdiv 5 = 0 := rfl
        have z2 : (0 : Int).tmod 5 = 0 := rfl
        have z3 : (0 : Int).tmod 8 = 0 := rfl
        have z4 : IntKind.i64.wrap 0 = 0 := by decide
        have hmx : k + 1 ≤ maxLen := by unfold maxLen; omega
        have kal : ∀ o : Obj, (w6.alloc o).drew.cell? ⟨g, 2, none⟩ = w6.cell? ⟨g, 2, none⟩ := fun o => World.cell?_alloc_lt w6 o _ (by show g < w6.heap.size; omega)
        have kal2 : ∀ o : Obj, (w6.alloc o).drew.cell? ⟨g, 27, none⟩ = w6.cell? ⟨g, 27, none⟩ := fun o => World.cell?_alloc_lt w6 o _ (by show g < w6.heap.size; omega)
        have k1' := (kal (.cells #[.int .u8 (((gt (tp m2) 0 : Nat) : Int) % 256)] 5)).trans cw6
        have k2' := (kal2 (.cells #[.int .u8 (((gt (tp m2) 0 : Nat) : Int) % 256)] 5)).trans cr6
        have hgsz : g < (w6.alloc (.cells #[.int .u8 (((gt (tp m2) 0 : Nat) : Int) % 256)] 5)).drew.heap.size := by simp; omega
        have hbsz : W0.heap.size ≤ (w6.alloc (.cells #[.int .u8 (((gt (tp m2) 0 : Nat) : Int) % 256)] 5)).drew.heap.size := by simp; omega
        have HK1 := Lib.hid k1'; have HK2 := Lib.hid k2'
        have hk1 : (k + 1) * 1 ≤ 140737488355328 := by omega
        have h01 : 0 < 1 := by omega
        clear k1' k2' kal kal2
        go_region_held3 (fun w' => w'.cell? ⟨g, 2, none⟩ = some (.int .u64 (gt (tp m2) 0 : Nat)) ∧ w'.cell? ⟨g, 27, none⟩ = some (.int .i64 0)) (first | go_keep | (exact ⟨HK1.out, HK2.out⟩) | (exact ⟨k1, k2⟩)) (first | ((refine step_append_lies _ rfl (.tmp 80) (.tmp 99) 22 ?ho0 W0.heap.size 5 bi (.int .u8 0) 1 1 Tryd.underlying22 HBI.out HBZ.out HBS.out HBB.out rfl h01 u5 k (bcells (outs r s k)) ?hs0 (HO6.out.alloc (.cells #[.int .u8 (((gt (tp m2) 0 : Nat) : Int) % 256)] 5)).drew ⟨w6.heap.size, 0, none⟩ 1 1 [.int .u8 (((gt (tp m2) 0 : Nat) : Int) % 256)] ?hx20 rfl (news_one w6 _) (one_val _) h01 hmx hk1 hbsz _ rfl ?hk0; (case ho0 => rfl); (case hs0 => rfl); (case hx20 => rfl); intro g' cap w7 hown hgrow hat hltg; have k1 : w7.cell? ⟨g, 2, none⟩ = some (.int .u64 (gt (tp m2) 0 : Nat)) := (hgrow.cell_far ⟨g, 2, none⟩ hgsz (ownNe' HO6.out hlt)).trans HK1.out; have k2 : w7.cell? ⟨g, 27, none⟩ = some (.int .i64 0) := (hgrow.cell_far ⟨g, 27, none⟩ hgsz (ownNe' HO6.out hlt)).trans HK2.out)))
        have hown' : w7.ownsRow W0.heap.size 5 1 (.slice (some ⟨g', 0, none⟩) (k + 1) cap) (k + 1) (bcells (outs r s k ++ [byteAt m2 0])) := by rw [bcells_append, show bcells [byteAt m2 0] = [.int .u8 (((gt (tp m2) 0 : Nat) : Int) % 256)] from by rw [HBT.out]; rfl]; exact hown
        have HO7 : Hid (w7.ownsRow W0.heap.size 5 1 (.slice (some ⟨g', 0, none⟩) (k + 1) cap) (k + 1) (bcells (outs r s (k + 1)))) := Lib.hid (by rw [outs_succ, show outAt r s k = byteAt m2 0 from by rw [outAt, HNM1.out]]; exact hown')
        have HS7 : Hid (RSp w7 g r e true (0, m2)) := Lib.hid (((HS6.out.alloc (.cells #[.int .u8 (((gt (tp m2) 0 : Nat) : Int) % 256)] 5)).drew).grown hgrow (ownNe' HO6.out hlt))
        have HG7 : Hid (W0.grownBy w7 (some g)) := Lib.hid (grown_own (only_drew (only_alloc HG6.out (.cells #[.int .u8 (((gt (tp m2) 0 : Nat) : Int) % 256)] 5))) hgrow HO6.out)
        clear hown hown' hgrow hat hltg cr6 fa6 cw6 k1 k2 hgsz hbsz
        have ca7 := HS7.out.at_
        have fa7 := HS7.out.frozen 27
        dsimp only at ca7
        go_wp2
        go_roundw
        case rel =>
          refine ⟨k + 1, by omega, by go_num, Lib.hid (ownsRow_setCell_below (a := ⟨g, 27, none⟩) HO7.out hlt _), Lib.hid ⟨1, m2, HS7.out.setAt 1, by omega, HOKC.out, ?_⟩, Lib.hid (only_set HG7.out (.inl rfl) _)⟩
          show normR r (0 + 1, m2) = stepAt r (after r s k)
          rw [HNM1.out]; rfl
        case measure => simp [intOf]; omega
      · have hd : ((a : Int) == (r : Int)) = false := by rw [beq_eq_false_iff_ne]; omega
        have hal : a < r := by omega
        have HNM2 : Hid (after r s k = (a, ws)) := Lib.hid (by rw [← HNM.out, normR, if_neg har])
        have HOK6 := HOK
        clear har
        go_wp2
        go_quiet (fail)
        go_wp2
        have HS6 : Hid (RSp (wr.drewN nq) g r e true (a, ws)) := Lib.hid HS1.out
        have HG6 := Lib.hid (only_drewN HG1.out nq)
        have HO6 : Hid ((wr.drewN nq).ownsRow W0.heap.size 5 1 u5 k (bcells (outs r s k))) := Lib.hid HO1.out
        generalize wr.drewN nq = w6 at *
        clear cr ca HS1 HG1 HO1
        as_aux_lemma =>
        have cr6 := HS6.out.at_
        have fa6 := HS6.out.frozen 27
        have cw6 : w6.cell? ⟨g, 2 + a / 8 % 5 * 5 + a / 8 / 5, none⟩ = some (.int .u64 (gt (tp ws) (5 * (a / 8 % 5) + a / 8 / 5) : Nat)) := by
          rw [← HS6.out.cell (5 * (a / 8 % 5) + a / 8 / 5) (by omega)]; congr 2; omega
        have HBT := Lib.hid (byte_tp ws a (by omega))
        dsimp only at cr6
        obtain ⟨bi, hbi, hbz, hbs, hbb⟩ := byteInfo
        have HBI := Lib.hid hbi; have HBZ := Lib.hid hbz; have HBS := Lib.hid hbs; have HBB := Lib.hid hbb; clear hbi hbz hbs hbb
        have hb0 : W0.heap.size ≤ w6.heap.size := HG6.out.size
        have hmx : k + 1 ≤ maxLen := by unfold maxLen; omega
        have q1 : ((a : Int) / 8).tmod 5 = (a : Int) / 8 % 5 := Int.tmod_eq_emod_of_nonneg (by omega)
        have q2 : ((a : Int) / 8).tdiv 5 = (a : Int) / 8 / 5 := Int.tdiv_eq_ediv_of_nonneg (by omega)
        have q3 : IntKind.i64.wrap ((a : Int) / 8 / 5) = (a : Int) / 8 / 5 := IntWalk.i64_in _ (by omega)
        have q4 : IntKind.i64.wrap ((a : Int) / 8 % 5) = (a : Int) / 8 % 5 := IntWalk.i64_in _ (by omega)
        have q5 : 0 ≤ (a : Int) / 8 % 5 := by omega
        have q6 : (a : Int) / 8 % 5 < 5 := by omega
        have q7 : 0 ≤ (a : Int) / 8 / 5 := by omega
        have q8 : (a : Int) / 8 / 5 < 5 := by omega
        have q9 : ((a : Int) / 8 % 5).toNat = a / 8 % 5 := by omega
        have q10 : ((a : Int) / 8 / 5).toNat = a / 8 / 5 := by omega
        have q11 : (a : Int).tmod 8 = (a : Int) % 8 := Int.tmod_eq_emod_of_nonneg (by omega)
        have q12 : IntKind.i64.wrap (8 * ((a : Int) % 8)) = 8 * ((a : Int) % 8) := IntWalk.i64_in _ (by omega)
        have q13 : 0 ≤ 8 * ((a : Int) % 8) := by omega
        have q14 : (8 * ((a : Int) % 8)).toNat = 8 * (a % 8) := by omega
        have q15 : min (8 * (a % 8)) 64 = 8 * (a % 8) := by omega
        have kal : ∀ o : Obj, (w6.alloc o).drew.cell? ⟨g, 2 + a / 8 % 5 * 5 + a / 8 / 5, none⟩ = w6.cell? ⟨g, 2 + a / 8 % 5 * 5 + a / 8 / 5, none⟩ := fun o => World.cell?_alloc_lt w6 o _ (by show g < w6.heap.size; omega)
        have kal2 : ∀ o : Obj, (w6.alloc o).drew.cell? ⟨g, 27, none⟩ = w6.cell? ⟨g, 27, none⟩ := fun o => World.cell?_alloc_lt w6 o _ (by show g < w6.heap.size; omega)
        have k1' := (kal (.cells #[.int .u8 (((gt (tp ws) (5 * (a / 8 % 5) + a / 8 / 5) : Nat) : Int) / 2 ^ (8 * (a % 8)) % 256)] 5)).trans cw6
        have k2' := (kal2 (.cells #[.int .u8 (((gt (tp ws) (5 * (a / 8 % 5) + a / 8 / 5) : Nat) : Int) / 2 ^ (8 * (a % 8)) % 256)] 5)).trans cr6
        have hgsz : g < (w6.alloc (.cells #[.int .u8 (((gt (tp ws) (5 * (a / 8 % 5) + a / 8 / 5) : Nat) : Int) / 2 ^ (8 * (a % 8)) % 256)] 5)).drew.heap.size := by simp; omega
        have hbsz : W0.heap.size ≤ (w6.alloc (.cells #[.int .u8 (((gt (tp ws) (5 * (a / 8 % 5) + a / 8 / 5) : Nat) : Int) / 2 ^ (8 * (a % 8)) % 256)] 5)).drew.heap.size := by simp; omega
        have HK1 := Lib.hid k1'; have HK2 := Lib.hid k2'
        have hk1 : (k + 1) * 1 ≤ 140737488355328 := by omega
        have h01 : 0 < 1 := by omega
        clear k1' k2' kal kal2
        go_region_held3 (fun w' => w'.cell? ⟨g, 2 + a / 8 % 5 * 5 + a / 8 / 5, none⟩ = some (.int .u64 (gt (tp ws) (5 * (a / 8 % 5) + a / 8 / 5) : Nat)) ∧ w'.cell? ⟨g, 27, none⟩ = some (.int .i64 (a : Nat))) (first | go_keep | (exact ⟨HK1.out, HK2.out⟩) | (exact ⟨k1, k2⟩)) (first | ((refine step_append_lies _ rfl (.tmp 80) (.tmp 99) 22 ?ho W0.heap.size 5 bi (.int .u8 0) 1 1 Tryd.underlying22 HBI.out HBZ.out HBS.out HBB.out rfl h01 u5 k (bcells (outs r s k)) ?hs (HO6.out.alloc (.cells #[.int .u8 (((gt (tp ws) (5 * (a / 8 % 5) + a / 8 / 5) : Nat) : Int) / 2 ^ (8 * (a % 8)) % 256)] 5)).drew ⟨w6.heap.size, 0, none⟩ 1 1 [.int .u8 (((gt (tp ws) (5 * (a / 8 % 5) + a / 8 / 5) : Nat) : Int) / 2 ^ (8 * (a % 8)) % 256)] ?hx2 rfl (news_one w6 _) (one_val _) h01 hmx hk1 hbsz _ rfl ?hk; (case ho => rfl); (case hs => rfl); (case hx2 => rfl); intro g' cap w7 hown hgrow hat hltg; have k1 : w7.cell? ⟨g, 2 + a / 8 % 5 * 5 + a / 8 / 5, none⟩ = some (.int .u64 (gt (tp ws) (5 * (a / 8 % 5) + a / 8 / 5) : Nat)) := (hgrow.cell_far ⟨g, 2 + a / 8 % 5 * 5 + a / 8 / 5, none⟩ hgsz (ownNe' HO6.out hlt)).trans HK1.out; have k2 : w7.cell? ⟨g, 27, none⟩ = some (.int .i64 (a : Nat)) := (hgrow.cell_far ⟨g, 27, none⟩ hgsz (ownNe' HO6.out hlt)).trans HK2.out)))
        have hown' : w7.ownsRow W0.heap.size 5 1 (.slice (some ⟨g', 0, none⟩) (k + 1) cap) (k + 1) (bcells (outs r s k ++ [byteAt ws a])) := by rw [bcells_append, show bcells [byteAt ws a] = [.int .u8 (((gt (tp ws) (5 * (a / 8 % 5) + a / 8 / 5) : Nat) : Int) / 2 ^ (8 * (a % 8)) % 256)] from by rw [HBT.out]; rfl]; exact hown
        have HO7 : Hid (w7.ownsRow W0.heap.size 5 1 (.slice (some ⟨g', 0, none⟩) (k + 1) cap) (k + 1) (bcells (outs r s (k + 1)))) := Lib.hid (by rw [outs_succ, show outAt r s k = byteAt ws a from by rw [outAt, HNM2.out]]; exact hown')
        have HS7 : Hid (RSp w7 g r e true (a, ws)) := Lib.hid (((HS6.out.alloc (.cells #[.int .u8 (((gt (tp ws) (5 * (a / 8 % 5) + a / 8 / 5) : Nat) : Int) / 2 ^ (8 * (a % 8)) % 256)] 5)).drew).grown hgrow (ownNe' HO6.out hlt))
        have HG7 : Hid (W0.grownBy w7 (some g)) := Lib.hid (grown_own (only_drew (only_alloc HG6.out (.cells #[.int .u8 (((gt (tp ws) (5 * (a / 8 % 5) + a / 8 / 5) : Nat) : Int) / 2 ^ (8 * (a % 8)) % 256)] 5))) hgrow HO6.out)
        clear hown hown' hgrow hat hltg cr6 fa6 cw6 q1 q2 q3 q4 q9 q10 q11 q12 q14 q15 k1 k2 hgsz hbsz
        have ca7 := HS7.out.at_
        have fa7 := HS7.out.frozen 27
        dsimp only at ca7
        go_wp2
        go_roundw
        case rel =>
          refine ⟨k + 1, by omega, by go_num, Lib.hid (ownsRow_setCell_below (a := ⟨g, 27, none⟩) HO7.out hlt _), Lib.hid ⟨a + 1, ws, HS7.out.setAt (a + 1), by omega, HOK6.out, ?_⟩, Lib.hid (only_set HG7.out (.inl rfl) _)⟩
          show normR r (a + 1, ws) = stepAt r (after r s k)
          rw [HNM2.out]; rfl
        case measure => simp [intOf]; omega
    · obtain rfl : k = n := by omega
      go_wp2
      go_ret
      exact ⟨_, rfl, HO1.out, ⟨a, ws, HS1.out, hle, HOK.out, HNM.out⟩, HG1.out⟩

end Go.Proofs.YtfhibjpkbbbfpaaDoor.Kec

namespace Go.Proofs.YtfhibjpkbbbfpaaDoor.Kec
set_option linter.all false
open Go.RowKit

set_option maxHeartbeats 8000000 in
set_option maxRecDepth 100000 in
theorem rread_turns (g r e : Nat) (s0 : Nat × List Nat) (n : Nat) (W0 : World) (hS0 : RSp W0 g r e false s0) (hG0 : Good r s0) (hr : r ≤ 192) (hr0 : 0 < r) (he : e < 256) (hn : n ≤ 65536) :
    Calls Tryd.prog 52 #[.pointer (some ⟨g, 0, none⟩), .int .i64 n] W0 fun e' w' => ∃ v, e' = .returned v ∧ w'.ownsRow W0.heap.size 5 1 v n (bcells (outs r (turned r e s0) n)) ∧ LzAt w' g r e (turned r e s0) n ∧ W0.grownBy w' (some g) := by
  have hlt : g < W0.heap.size := hS0.2.lt
  obtain ⟨a0, ws0⟩ := s0
  have ha0 : a0 < r := hG0.1
  have c0 := hS0.gives
  have c1 := hS0.at_
  dsimp only at c1
  have c2 := hS0.end_
  have c3 := hS0.rate
  have HS0 := Lib.hid hS0; have HG0 := Lib.hid hG0; clear hS0 hG0
  have h1 : ¬ ((n : Int) < 0) := by omega
  have h2 : ¬ (65536 < (n : Int)) := by omega
  obtain ⟨s, hs⟩ : ∃ s, turned r e (a0, ws0) = s := ⟨_, rfl⟩
  rw [hs]
  have HSE := Lib.hid hs; clear hs
  go_enter Tryd.func52, Tryd.ntmps52
  go_wp2
  refine wp_region_still_tail 9 (by kernel_rfl) (by kernel_rfl) ?_
  simp only [List.take_succ_cons, List.take_zero, List.drop_succ_cons, List.drop_zero]
  repeat still_step
  refine wpStill_nil ?_
  change wpList _ _ _ _ _ W0.drew
  go_wp2_with fail
  refine (rlay_any g r e a0 e false (a0, ws0) _ (by omega) he HS0.out.drew HG0.out.2).mono ?_
  rintro e' w1 ⟨rfl, hS2, hG2⟩
  have HS2 : Hid (RSp w1 g r e false (a0, lay ws0 a0 e)) := Lib.hid hS2
  have HG2 := Lib.hid (only_then (only_drew (World.grownBy.refl W0 (some g))) hG2 (.inl rfl))
  have HO2 := Lib.hid (ok_lay HG0.out.2 a0 e (by omega))
  clear hS2 hG2 c0 c1 c2 c3
  have c3 := HS2.out.rate
  have hr1 : ((r - 1 : Nat) : Int) = (r : Int) - 1 := by omega
  have HR1 := Lib.hid hr1; clear hr1
  go_wp2_with fail
  rw [← HR1.out]
  refine (rlay_any g r e (r - 1) 128 false _ _ (by omega) (by omega) HS2.out HO2.out).mono ?_
  rintro e' w2 ⟨rfl, hS3, hG3⟩
  obtain ⟨us, hus⟩ : ∃ us, lay (lay ws0 a0 e) (r - 1) 128 = us := ⟨_, rfl⟩
  have HO3 := Lib.hid (ok_lay HO2.out (r - 1) 128 (by omega))
  rw [hus] at HO3
  have HS3 : Hid (RSp w2 g r e false (a0, us)) := Lib.hid (by rw [← hus]; exact hS3)
  have HG3 := Lib.hid (only_then HG2.out hG3 (.inl rfl))
  have HSU : Hid (s = (0, change us)) := Lib.hid (by rw [← HSE.out, ← hus]; rfl)
  clear hS3 hG3 hus c3 HS2 HG2 HO2
  go_wp2_with (refine wpList_load_mid (op := ⟨some 40, .load 83 (.tmp 39), _, _, _, none⟩) rfl 83 (.tmp 39) rfl g 2 (by rfl) (words (tp us)).toList _ (HS3.out.range (tab_len _)) Tryd.underlying83 rfl (tp_size us) ?_)
  refine (rchange_words us _ HO3.out).mono ?_
  rintro e' w4 ⟨rfl, hB4⟩
  have HB4 := Lib.hid hB4; clear hB4
  have hokc := ok_change HO3.out
  generalize change us = m2 at *
  have HOKC := Lib.hid hokc; clear hokc
  go_wp2_with ((refine wpList_store_mid (op := ⟨none, .store 83 (.tmp 43) (.tmp 41), _, _, _, none⟩) rfl 83 (.tmp 43) (.tmp 41) rfl g 2 (words (tp m2)) (by rfl) (by rfl) (tp_there HS3.out HB4.out m2) (tp_size' m2) (words_one _) ?_); have HS5 := Lib.hid (HS3.out.chg HB4.out m2); have HG5 := Lib.hid (only_chg HG3.out HB4.out m2); generalize w4.setCells g 2 (words (tp m2)).toList = w5 at *; have ca := HS5.out.at_; have fa := HS5.out.frozen 27; dsimp only at ca; have HS6 : Hid (RSp (w5.setCell ⟨g, 27, none⟩ (.int .i64 0)) g r e false (0, m2)) := Lib.hid (HS5.out.setAt 0); have HG6 := Lib.hid (only_set HG5.out (p := ⟨g, 27, none⟩) (.inl rfl) (.int .i64 0)); have cg : (w5.setCell ⟨g, 27, none⟩ (.int .i64 0)).cell? ⟨g, 28, none⟩ = some (.bool false) := HS6.out.gives; have fg : (w5.setCell ⟨g, 27, none⟩ (.int .i64 0)).frozen? ⟨g, 28, none⟩ = false := HS6.out.frozen 28)
  have HS7 : Hid (RSp ((w5.setCell ⟨g, 27, none⟩ (.int .i64 0)).setCell ⟨g, 28, none⟩ (.bool true)) g r e true (0, m2)) := Lib.hid (HS6.out.setGives true)
  have HGX : Hid (W0.grownBy ((w5.setCell ⟨g, 27, none⟩ (.int .i64 0)).setCell ⟨g, 28, none⟩ (.bool true)) (some g)) := Lib.hid (only_set HG6.out (p := ⟨g, 28, none⟩) (.inl rfl) (.bool true))
  clear ca fa cg fg HS5 HG5 HS6 HG6 HS3 HG3
  generalize (w5.setCell ⟨g, 27, none⟩ (.int .i64 0)).setCell ⟨g, 28, none⟩ (.bool true) = wX at *
  have HLZ : Hid (LzAt wX g r e s 0) := Lib.hid ⟨0, m2, HS7.out, by omega, HOKC.out, by show normR r (0, m2) = s; rw [HSU.out, normR, if_neg (by show ¬ 0 = r; omega)]⟩
  clear HS7 HOKC HSU
  go_loopw [5, 6] (fun o i W => ∃ k : Nat, k ≤ n ∧ i = .int .i64 k ∧ Hid (W.ownsRow W0.heap.size 5 1 o k (bcells (outs r s k))) ∧ Hid (LzAt W g r e s k) ∧ Hid (W0.grownBy W (some g))) (fun _ i _ => n - (intOf i).toNat)
  case atStart => exact ⟨0, by omega, rfl, Lib.hid (World.ownsRow_nil _ _ _ _), HLZ, HGX⟩
  case round =>
    obtain ⟨k, hk, rfl, HO1, HL1, HG1⟩ := hrel
    obtain ⟨a, ws, hS1, hle, hok, hnorm⟩ := HL1.out
    have HS1 := Lib.hid hS1; have HOK := Lib.hid hok; have HNM := Lib.hid hnorm; clear hS1 hok hnorm HL1
    by_cases hkn : k < n
    · have hkn' : (k : Int) < (n : Int) := by omega
      have cr := HS1.out.rate
      have ca := HS1.out.at_
      dsimp only at ca
      by_cases har : a = r
      · have hd : ((a : Int) == (r : Int)) = true := by rw [beq_iff_eq]; omega
        have HNM1 : Hid (after r s k = (0, change ws)) := Lib.hid (by rw [← HNM.out, normR, if_pos har])
        have HAR := Lib.hid har; clear har
        go_wp2
        go_quiet (fail)
        have HS3 : Hid (RSp (wr.drewN nq) g r e true (a, ws)) := Lib.hid HS1.out
        have HG3 := Lib.hid (only_drewN HG1.out nq)
        have HO3 : Hid ((wr.drewN nq).ownsRow W0.heap.size 5 1 u5 k (bcells (outs r s k))) := Lib.hid HO1.out
        generalize wr.drewN nq = w3 at *
        clear cr ca HS1 HG1 HO1
        go_wp2_with (refine wpList_load_mid (op := ⟨some 68, .load 83 (.tmp 67), _, _, _, none⟩) rfl 83 (.tmp 67) rfl g 2 (by rfl) (words (tp ws)).toList _ (HS3.out.range (tab_len _)) Tryd.underlying83 rfl (tp_size ws) ?_)
        refine (rchange_words ws _ HOK.out).mono ?_
        rintro e' w4 ⟨rfl, hB4⟩
        have HB4 := Lib.hid hB4; clear hB4
        have hokc := ok_change HOK.out
        generalize change ws = m2 at *
        have HOKC := Lib.hid hokc; clear hokc
        go_wp2_with ((refine wpList_store_mid (op := ⟨none, .store 83 (.tmp 71) (.tmp 69), _, _, _, none⟩) rfl 83 (.tmp 71) (.tmp 69) rfl g 2 (words (tp m2)) (by rfl) (by rfl) (tp_there HS3.out HB4.out m2) (tp_size' m2) (words_one _) ?_); have HS5 := Lib.hid (HS3.out.chg HB4.out m2); have HG5 := Lib.hid (only_chg HG3.out HB4.out m2); have HO5 := Lib.hid ((HO3.out.kept (only_of_below HB4.out none) (ownNone HO3.out)).kept (only_setCells (words (tp m2)).toList 2 w4 (World.grownBy.refl w4 (some g))) (ownNe HO3.out hlt)); generalize w4.setCells g 2 (words (tp m2)).toList = w5 at *; have ca := HS5.out.at_; have fa := HS5.out.frozen 27; dsimp only at ca)
        have HS6 : Hid (RSp (w5.setCell ⟨g, 27, none⟩ (.int .i64 0)) g r e true (0, m2)) := Lib.hid (HS5.out.setAt 0)
        have HG6 := Lib.hid (only_set HG5.out (p := ⟨g, 27, none⟩) (.inl rfl) (.int .i64 0))
        have HO6 := Lib.hid (ownsRow_setCell_below (a := ⟨g, 27, none⟩) HO5.out hlt (.int .i64 0))
        generalize w5.setCell ⟨g, 27, none⟩ (.int .i64 0) = w6 at *
        clear ca fa
        as_aux_lemma =>
        have cr6 := HS6.out.at_
        have fa6 := HS6.out.frozen 27
        have cw6 : w6.cell? ⟨g, 2, none⟩ = some (.int .u64 (gt (tp m2) 0 : Nat)) := by
          exact HS6.out.cell 0 (by omega)
        have HBT := Lib.hid (byte_zero m2)
        dsimp only at cr6
        obtain ⟨bi, hbi, hbz, hbs, hbb⟩ := byteInfo
        have HBI := Lib.hid hbi; have HBZ := Lib.hid hbz; have HBS := Lib.hid hbs; have HBB := Lib.hid hbb; clear hbi hbz hbs hbb
        have hb0 : W0.heap.size ≤ w6.heap.size := HG6.out.size
        have z1 : (0 : Int).tdiv 5 = 0 := rfl
        have z2 : (0 : Int).tmod 5 = 0 := rfl
        have z3 : (0 : Int).tmod 8 = 0 := rfl
        have z4 : IntKind.i64.wrap 0 = 0 := by decide
        have hmx : k + 1 ≤ maxLen := by unfold maxLen; omega
        have kal : ∀ o : Obj, (w6.alloc o).drew.cell? ⟨g, 2, none⟩ = w6.cell? ⟨g, 2, none⟩ := fun o => World.cell?_alloc_lt w6 o _ (by show g < w6.heap.size; omega)
        have kal2 : ∀ o : Obj, (w6.alloc o).drew.cell? ⟨g, 27, none⟩ = w6.cell? ⟨g, 27, none⟩ := fun o => World.cell?_alloc_lt w6 o _ (by show g < w6.heap.size; omega)
        have k1' := (kal (.cells #[.int .u8 (((gt (tp m2) 0 : Nat) : Int) % 256)] 5)).trans cw6
        have k2' := (kal2 (.cells #[.int .u8 (((gt (tp m2) 0 : Nat) : Int) % 256)] 5)).trans cr6
        have hgsz : g < (w6.alloc (.cells #[.int .u8 (((gt (tp m2) 0 : Nat) : Int) % 256)] 5)).drew.heap.size := by simp; omega
        have hbsz : W0.heap.size ≤ (w6.alloc (.cells #[.int .u8 (((gt (tp m2) 0 : Nat) : Int) % 256)] 5)).drew.heap.size := by simp; omega
        have HK1 := Lib.hid k1'; have HK2 := Lib.hid k2'
        have hk1 : (k + 1) * 1 ≤ 140737488355328 := by omega
        have h01 : 0 < 1 := by omega
        clear k1' k2' kal kal2
        go_region_held3 (fun w' => w'.cell? ⟨g, 2, none⟩ = some (.int .u64 (gt (tp m2) 0 : Nat)) ∧ w'.cell? ⟨g, 27, none⟩ = some (.int .i64 0)) (first | go_keep | (exact ⟨HK1.out, HK2.out⟩) | (exact ⟨k1, k2⟩)) (first | ((refine step_append_lies _ rfl (.tmp 80) (.tmp 99) 22 ?ho0 W0.heap.size 5 bi (.int .u8 0) 1 1 Tryd.underlying22 HBI.out HBZ.out HBS.out HBB.out rfl h01 u5 k (bcells (outs r s k)) ?hs0 (HO6.out.alloc (.cells #[.int .u8 (((gt (tp m2) 0 : Nat) : Int) % 256)] 5)).drew ⟨w6.heap.size, 0, none⟩ 1 1 [.int .u8 (((gt (tp m2) 0 : Nat) : Int) % 256)] ?hx20 rfl (news_one w6 _) (one_val _) h01 hmx hk1 hbsz _ rfl ?hk0; (case ho0 => rfl); (case hs0 => rfl); (case hx20 => rfl); intro g' cap w7 hown hgrow hat hltg; have k1 : w7.cell? ⟨g, 2, none⟩ = some (.int .u64 (gt (tp m2) 0 : Nat)) := (hgrow.cell_far ⟨g, 2, none⟩ hgsz (ownNe' HO6.out hlt)).trans HK1.out; have k2 : w7.cell? ⟨g, 27, none⟩ = some (.int .i64 0) := (hgrow.cell_far ⟨g, 27, none⟩ hgsz (ownNe' HO6.out hlt)).trans HK2.out)))
        have hown' : w7.ownsRow W0.heap.size 5 1 (.slice (some ⟨g', 0, none⟩) (k + 1) cap) (k + 1) (bcells (outs r s k ++ [byteAt m2 0])) := by rw [bcells_append, show bcells [byteAt m2 0] = [.int .u8 (((gt (tp m2) 0 : Nat) : Int) % 256)] from by rw [HBT.out]; rfl]; exact hown
        have HO7 : Hid (w7.ownsRow W0.heap.size 5 1 (.slice (some ⟨g', 0, none⟩) (k + 1) cap) (k + 1) (bcells (outs r s (k + 1)))) := Lib.hid (by rw [outs_succ, show outAt r s k = byteAt m2 0 from by rw [outAt, HNM1.out]]; exact hown')
        have HS7 : Hid (RSp w7 g r e true (0, m2)) := Lib.hid (((HS6.out.alloc (.cells #[.int .u8 (((gt (tp m2) 0 : Nat) : Int) % 256)] 5)).drew).grown hgrow (ownNe' HO6.out hlt))
        have HG7 : Hid (W0.grownBy w7 (some g)) := Lib.hid (grown_own (only_drew (only_alloc HG6.out (.cells #[.int .u8 (((gt (tp m2) 0 : Nat) : Int) % 256)] 5))) hgrow HO6.out)
        clear hown hown' hgrow hat hltg cr6 fa6 cw6 k1 k2 hgsz hbsz
        have ca7 := HS7.out.at_
        have fa7 := HS7.out.frozen 27
        dsimp only at ca7
        go_wp2
        go_roundw
        case rel =>
          refine ⟨k + 1, by omega, by go_num, Lib.hid (ownsRow_setCell_below (a := ⟨g, 27, none⟩) HO7.out hlt _), Lib.hid ⟨1, m2, HS7.out.setAt 1, by omega, HOKC.out, ?_⟩, Lib.hid (only_set HG7.out (.inl rfl) _)⟩
          show normR r (0 + 1, m2) = stepAt r (after r s k)
          rw [HNM1.out]; rfl
        case measure => simp [intOf]; omega
      · have hd : ((a : Int) == (r : Int)) = false := by rw [beq_eq_false_iff_ne]; omega
        have hal : a < r := by omega
        have HNM2 : Hid (after r s k = (a, ws)) := Lib.hid (by rw [← HNM.out, normR, if_neg har])
        have HOK6 := HOK
        clear har
        go_wp2
        go_quiet (fail)
        go_wp2
        have HS6 : Hid (RSp (wr.drewN nq) g r e true (a, ws)) := Lib.hid HS1.out
        have HG6 := Lib.hid (only_drewN HG1.out nq)
        have HO6 : Hid ((wr.drewN nq).ownsRow W0.heap.size 5 1 u5 k (bcells (outs r s k))) := Lib.hid HO1.out
        generalize wr.drewN nq = w6 at *
        clear cr ca HS1 HG1 HO1
        as_aux_lemma =>
        have cr6 := HS6.out.at_
        have fa6 := HS6.out.frozen 27
        have cw6 : w6.cell? ⟨g, 2 + a / 8 % 5 * 5 + a / 8 / 5, none⟩ = some (.int .u64 (gt (tp ws) (5 * (a / 8 % 5) + a / 8 / 5) : Nat)) := by
          rw [← HS6.out.cell (5 * (a / 8 % 5) + a / 8 / 5) (by omega)]; congr 2; omega
        have HBT := Lib.hid (byte_tp ws a (by omega))
        dsimp only at cr6
        obtain ⟨bi, hbi, hbz, hbs, hbb⟩ := byteInfo
        have HBI := Lib.hid hbi; have HBZ := Lib.hid hbz; have HBS := Lib.hid hbs; have HBB := Lib.hid hbb; clear hbi hbz hbs hbb
        have hb0 : W0.heap.size ≤ w6.heap.size := HG6.out.size
        have hmx : k + 1 ≤ maxLen := by unfold maxLen; omega
        have q1 : ((a : Int) / 8).tmod 5 = (a : Int) / 8 % 5 := Int.tmod_eq_emod_of_nonneg (by omega)
        have q2 : ((a : Int) / 8).tdiv 5 = (a : Int) / 8 / 5 := Int.tdiv_eq_ediv_of_nonneg (by omega)
        have q3 : IntKind.i64.wrap ((a : Int) / 8 / 5) = (a : Int) / 8 / 5 := IntWalk.i64_in _ (by omega)
        have q4 : IntKind.i64.wrap ((a : Int) / 8 % 5) = (a : Int) / 8 % 5 := IntWalk.i64_in _ (by omega)
        have q5 : 0 ≤ (a : Int) / 8 % 5 := by omega
        have q6 : (a : Int) / 8 % 5 < 5 := by omega
        have q7 : 0 ≤ (a : Int) / 8 / 5 := by omega
        have q8 : (a : Int) / 8 / 5 < 5 := by omega
        have q9 : ((a : Int) / 8 % 5).toNat = a / 8 % 5 := by omega
        have q10 : ((a : Int) / 8 / 5).toNat = a / 8 / 5 := by omega
        have q11 : (a : Int).tmod 8 = (a : Int) % 8 := Int.tmod_eq_emod_of_nonneg (by omega)
        have q12 : IntKind.i64.wrap (8 * ((a : Int) % 8)) = 8 * ((a : Int) % 8) := IntWalk.i64_in _ (by omega)
        have q13 : 0 ≤ 8 * ((a : Int) % 8) := by omega
        have q14 : (8 * ((a : Int) % 8)).toNat = 8 * (a % 8) := by omega
        have q15 : min (8 * (a % 8)) 64 = 8 * (a % 8) := by omega
        have kal : ∀ o : Obj, (w6.alloc o).drew.cell? ⟨g, 2 + a / 8 % 5 * 5 + a / 8 / 5, none⟩ = w6.cell? ⟨g, 2 + a / 8 % 5 * 5 + a / 8 / 5, none⟩ := fun o => World.cell?_alloc_lt w6 o _ (by show g < w6.heap.size; omega)
        have kal2 : ∀ o : Obj, (w6.alloc o).drew.cell? ⟨g, 27, none⟩ = w6.cell? ⟨g, 27, none⟩ := fun o => World.cell?_alloc_lt w6 o _ (by show g < w6.heap.size; omega)
        have k1' := (kal (.cells #[.int .u8 (((gt (tp ws) (5 * (a / 8 % 5) + a / 8 / 5) : Nat) : Int) / 2 ^ (8 * (a % 8)) % 256)] 5)).trans cw6
        have k2' := (kal2 (.cells #[.int .u8 (((gt (tp ws) (5 * (a / 8 % 5) + a / 8 / 5) : Nat) : Int) / 2 ^ (8 * (a % 8)) % 256)] 5)).trans cr6
        have hgsz : g < (w6.alloc (.cells #[.int .u8 (((gt (tp ws) (5 * (a / 8 % 5) + a / 8 / 5) : Nat) : Int) / 2 ^ (8 * (a % 8)) % 256)] 5)).drew.heap.size := by simp; omega
        have hbsz : W0.heap.size ≤ (w6.alloc (.cells #[.int .u8 (((gt (tp ws) (5 * (a / 8 % 5) + a / 8 / 5) : Nat) : Int) / 2 ^ (8 * (a % 8)) % 256)] 5)).drew.heap.size := by simp; omega
        have HK1 := Lib.hid k1'; have HK2 := Lib.hid k2'
        have hk1 : (k + 1) * 1 ≤ 140737488355328 := by omega
        have h01 : 0 < 1 := by omega
        clear k1' k2' kal kal2
        go_region_held3 (fun w' => w'.cell? ⟨g, 2 + a / 8 % 5 * 5 + a / 8 / 5, none⟩ = some (.int .u64 (gt (tp ws) (5 * (a / 8 % 5) + a / 8 / 5) : Nat)) ∧ w'.cell? ⟨g, 27, none⟩ = some (.int .i64 (a : Nat))) (first | go_keep | (exact ⟨HK1.out, HK2.out⟩) | (exact ⟨k1, k2⟩)) (first | ((refine step_append_lies _ rfl (.tmp 80) (.tmp 99) 22 ?ho W0.heap.size 5 bi (.int .u8 0) 1 1 Tryd.underlying22 HBI.out HBZ.out HBS.out HBB.out rfl h01 u5 k (bcells (outs r s k)) ?hs (HO6.out.alloc (.cells #[.int .u8 (((gt (tp ws) (5 * (a / 8 % 5) + a / 8 / 5) : Nat) : Int) / 2 ^ (8 * (a % 8)) % 256)] 5)).drew ⟨w6.heap.size, 0, none⟩ 1 1 [.int .u8 (((gt (tp ws) (5 * (a / 8 % 5) + a / 8 / 5) : Nat) : Int) / 2 ^ (8 * (a % 8)) % 256)] ?hx2 rfl (news_one w6 _) (one_val _) h01 hmx hk1 hbsz _ rfl ?hk; (case ho => rfl); (case hs => rfl); (case hx2 => rfl); intro g' cap w7 hown hgrow hat hltg; have k1 : w7.cell? ⟨g, 2 + a / 8 % 5 * 5 + a / 8 / 5, none⟩ = some (.int .u64 (gt (tp ws) (5 * (a / 8 % 5) + a / 8 / 5) : Nat)) := (hgrow.cell_far ⟨g, 2 + a / 8 % 5 * 5 + a / 8 / 5, none⟩ hgsz (ownNe' HO6.out hlt)).trans HK1.out; have k2 : w7.cell? ⟨g, 27, none⟩ = some (.int .i64 (a : Nat)) := (hgrow.cell_far ⟨g, 27, none⟩ hgsz (ownNe' HO6.out hlt)).trans HK2.out)))
        have hown' : w7.ownsRow W0.heap.size 5 1 (.slice (some ⟨g', 0, none⟩) (k + 1) cap) (k + 1) (bcells (outs r s k ++ [byteAt ws a])) := by rw [bcells_append, show bcells [byteAt ws a] = [.int .u8 (((gt (tp ws) (5 * (a / 8 % 5) + a / 8 / 5) : Nat) : Int) / 2 ^ (8 * (a % 8)) % 256)] from by rw [HBT.out]; rfl]; exact hown
        have HO7 : Hid (w7.ownsRow W0.heap.size 5 1 (.slice (some ⟨g', 0, none⟩) (k + 1) cap) (k + 1) (bcells (outs r s (k + 1)))) := Lib.hid (by rw [outs_succ, show outAt r s k = byteAt ws a from by rw [outAt, HNM2.out]]; exact hown')
        have HS7 : Hid (RSp w7 g r e true (a, ws)) := Lib.hid (((HS6.out.alloc (.cells #[.int .u8 (((gt (tp ws) (5 * (a / 8 % 5) + a / 8 / 5) : Nat) : Int) / 2 ^ (8 * (a % 8)) % 256)] 5)).drew).grown hgrow (ownNe' HO6.out hlt))
        have HG7 : Hid (W0.grownBy w7 (some g)) := Lib.hid (grown_own (only_drew (only_alloc HG6.out (.cells #[.int .u8 (((gt (tp ws) (5 * (a / 8 % 5) + a / 8 / 5) : Nat) : Int) / 2 ^ (8 * (a % 8)) % 256)] 5))) hgrow HO6.out)
        clear hown hown' hgrow hat hltg cr6 fa6 cw6 q1 q2 q3 q4 q9 q10 q11 q12 q14 q15 k1 k2 hgsz hbsz
        have ca7 := HS7.out.at_
        have fa7 := HS7.out.frozen 27
        dsimp only at ca7
        go_wp2
        go_roundw
        case rel =>
          refine ⟨k + 1, by omega, by go_num, Lib.hid (ownsRow_setCell_below (a := ⟨g, 27, none⟩) HO7.out hlt _), Lib.hid ⟨a + 1, ws, HS7.out.setAt (a + 1), by omega, HOK6.out, ?_⟩, Lib.hid (only_set HG7.out (.inl rfl) _)⟩
          show normR r (a + 1, ws) = stepAt r (after r s k)
          rw [HNM2.out]; rfl
        case measure => simp [intOf]; omega
    · obtain rfl : k = n := by omega
      go_wp2
      go_ret
      exact ⟨_, rfl, HO1.out, ⟨a, ws, HS1.out, hle, HOK.out, HNM.out⟩, HG1.out⟩

end Go.Proofs.YtfhibjpkbbbfpaaDoor.Kec

namespace Go.Proofs.YtfhibjpkbbbfpaaDoor.Kec
set_option linter.all false
open Go.RowKit

theorem sponge_lt (r e : Nat) (bs : List Nat) (n : Nat) : ∀ j, gt (sponge r e bs n) j < 256 := gt_lt_of_mem (outs_lt _ _ _)
theorem held_of_row {lo g n : Nat} {w : World} {bs : List Nat} (h : w.rowIs g 5 n (byteRow bs)) (hl : bs.length = n) (hx : ∀ j, gt bs j < 256) (hb : lo ≤ g) (c : Nat) : Held lo (.slice (some ⟨g, 0, none⟩) n c) bs w := by
  refine ⟨_, _, _, rfl, ⟨hx, fun _ => ⟨_, rfl, h.lt, fun j hj => ?_⟩⟩, hl, fun ad e => by injection e with e; subst e; exact hb⟩
  have ha : (⟨g, 0, none⟩ : Addr).add j = ⟨g, j, none⟩ := by unfold Addr.add; split <;> simp_all
  rw [ha, h.cell (by omega)]; rfl
theorem told_of_out {w : World} {r e n : Nat} {bs : List Nat} {e' : Ending} {w' : World} (h : Out w (sponge r e bs n) e' w') : Told (sponge r e bs n) w e' w' := by
  obtain ⟨g, h1, h2, h3, h4⟩ := h
  exact ⟨_, h1, held_of_row h3 rfl (sponge_lt _ _ _ _) h2 _, h4⟩
def shk (r e : Nat) (bs : List Nat) (x : Int) : List Nat := if 0 ≤ x ∧ x ≤ 65536 then sponge r e bs x.toNat else []
theorem shake256_told (A : Option Addr) (bs : List Nat) (n c : Nat) (x : Int) (w : World) (hT : Tables w) (hR : Rd w w.heap.size A bs) (hn : bs.length = n) (hm : n ≤ 9223372036854775807) :
    Calls Tryd.prog 22 #[.slice A n c, .int .i64 x] w (Told (shk 136 31 bs x) w) := by
  unfold shk
  by_cases h : 0 ≤ x ∧ x ≤ 65536
  · rw [if_pos h]
    obtain ⟨k, rfl⟩ : ∃ k : Nat, x = k := ⟨x.toNat, by omega⟩
    rw [show ((k : Int)).toNat = k by omega]
    exact (shake256_any A bs n c k w hT hR hn hm (by omega)).mono fun _ _ h => told_of_out h
  · rw [if_neg h]
    exact (shake256_bad A bs n c x w hT hR hn hm (by omega)).mono fun _ _ ⟨h1, h2⟩ => ⟨_, h1, Held.none _ _, h2⟩

set_option maxHeartbeats 1000000 in
theorem rof_any (r e : Nat) (A : Option Addr) (bs : List Nat) (n c m : Nat) (w : World) (h1 : 8 ≤ r) (h2 : r ≤ 192) (h3 : r % 8 = 0) (he : e < 256) (h3' : 6 ≤ w.heap.size)
    (hR : Rd w w.heap.size A bs) (hn : bs.length = n) (hm : n ≤ 9223372036854775807) (hk : m ≤ 65536) :
    Calls Tryd.prog 36 #[.int .i64 r, .int .u8 e, .slice A n c, .int .i64 m] w (Told (sponge r e bs m) w) := by
  have HR := Lib.hid hR; have HN := Lib.hid hn; have H3 := Lib.hid h3; clear hR hn h3
  obtain ⟨S, hS⟩ : ∃ S, sponge r e bs m = S := ⟨_, rfl⟩
  rw [hS]
  have HSE := Lib.hid hS; clear hS
  have HSL : Hid (∀ j, gt S j < 256) := Lib.hid (by rw [← HSE.out]; exact sponge_lt _ _ _ _)
  go_enter Tryd.func36, Tryd.ntmps36
  go_wp2_with fail
  refine (rnew_any r e _ h1 h2 H3.out).mono ?_
  rintro e' w1 ⟨rfl, hS, hB, hz⟩
  have HS := Lib.hid hS; have HB := Lib.hid hB; clear hS hB hz
  have HR1 := Lib.hid (HR.out.below HB.out)
  go_wp2_with fail
  refine (rwrite_any w.heap.size r e w.heap.size start A bs n c _ HS.out (good_start (by omega)) h2 h3' HR1.out (Nat.le_refl _) HN.out hm).mono ?_
  rintro e' w2 ⟨rfl, hS2, hG2⟩
  have HS2 := Lib.hid hS2; have HG2 := Lib.hid hG2; clear hS2 hG2
  have HB2 := Lib.hid (below_of_only HB.out HG2.out (Nat.le_refl _))
  go_wp2_with fail
  refine (rread_turns w.heap.size r e _ m _ HS2.out (good_takeAll h2 bs (good_start (by omega))) h2 (by omega) he hk).mono ?_
  rintro e' w3 ⟨v, rfl, hown, _, hG3⟩
  have hown : w3.ownsRow w2.heap.size 5 1 v m (bcells S) := by rw [← HSE.out]; exact hown
  have HH := Lib.hid (Held.of_own (lo := w.heap.size) hown HSL.out HB2.out.size)
  have HG3 := Lib.hid hG3
  clear hown hG3
  obtain ⟨A', n', c', rfl, -⟩ := id HH.out
  go_wp2
  go_ret
  exact ⟨_, rfl, HH.out, below_of_only HB2.out HG3.out (Nat.le_refl _)⟩
set_option maxHeartbeats 1000000 in
theorem rof_bad (r e : Nat) (A : Option Addr) (bs : List Nat) (n c : Nat) (m : Int) (w : World) (h1 : 8 ≤ r) (h2 : r ≤ 192) (h3 : r % 8 = 0) (h3' : 6 ≤ w.heap.size)
    (hR : Rd w w.heap.size A bs) (hn : bs.length = n) (hm : n ≤ 9223372036854775807) (hk : m < 0 ∨ 65536 < m) :
    Calls Tryd.prog 36 #[.int .i64 r, .int .u8 e, .slice A n c, .int .i64 m] w (Told [] w) := by
  have HR := Lib.hid hR; have HN := Lib.hid hn; have H3 := Lib.hid h3; have HK := Lib.hid hk; clear hR hn h3 hk
  go_enter Tryd.func36, Tryd.ntmps36
  go_wp2_with fail
  refine (rnew_any r e _ h1 h2 H3.out).mono ?_
  rintro e' w1 ⟨rfl, hS, hB, hz⟩
  have HS := Lib.hid hS; have HB := Lib.hid hB; clear hS hB hz
  have HR1 := Lib.hid (HR.out.below HB.out)
  go_wp2_with fail
  refine (rwrite_any w.heap.size r e w.heap.size start A bs n c _ HS.out (good_start (by omega)) h2 h3' HR1.out (Nat.le_refl _) HN.out hm).mono ?_
  rintro e' w2 ⟨rfl, hS2, hG2⟩
  have HG2 := Lib.hid hG2; clear hS2 hG2
  have HB2 := Lib.hid (below_of_only HB.out HG2.out (Nat.le_refl _))
  go_wp2_with fail
  refine (rread_bad w.heap.size m _ HK.out).mono ?_
  rintro e' w3 ⟨rfl, rfl⟩
  go_wp2
  go_ret
  exact ⟨_, rfl, Held.none _ _, HB2.out⟩
theorem rof_told (r e : Nat) (A : Option Addr) (bs : List Nat) (n c : Nat) (x : Int) (w : World) (h1 : 8 ≤ r) (h2 : r ≤ 192) (h3 : r % 8 = 0) (he : e < 256) (h3' : 6 ≤ w.heap.size)
    (hR : Rd w w.heap.size A bs) (hn : bs.length = n) (hm : n ≤ 9223372036854775807) :
    Calls Tryd.prog 36 #[.int .i64 r, .int .u8 e, .slice A n c, .int .i64 x] w (Told (shk r e bs x) w) := by
  unfold shk
  by_cases h : 0 ≤ x ∧ x ≤ 65536
  · rw [if_pos h]
    obtain ⟨k, rfl⟩ : ∃ k : Nat, x = k := ⟨x.toNat, by omega⟩
    rw [show ((k : Int)).toNat = k by omega]
    exact rof_any r e A bs n c k w h1 h2 h3 he h3' hR hn hm (by omega)
  · rw [if_neg h]
    exact rof_bad r e A bs n c x w h1 h2 h3 h3' hR hn hm (by omega)
theorem shk_at (r e : Nat) (bs : List Nat) (k : Nat) (h : k ≤ 65536) : shk r e bs k = sponge r e bs k := by
  unfold shk; rw [if_pos (by omega), show ((k : Int)).toNat = k by omega]
set_option maxHeartbeats 1000000 in
theorem rshake256_told (A : Option Addr) (bs : List Nat) (n c : Nat) (x : Int) (w : World) (h3' : 6 ≤ w.heap.size) (hR : Rd w w.heap.size A bs) (hn : bs.length = n) (hm : n ≤ 9223372036854775807) :
    Calls Tryd.prog 26 #[.slice A n c, .int .i64 x] w (Told (shk 136 31 bs x) w) := by
  have HR := Lib.hid hR; have HN := Lib.hid hn; clear hR hn
  obtain ⟨S, hS⟩ : ∃ S, shk 136 31 bs x = S := ⟨_, rfl⟩
  rw [hS]
  have HSE := Lib.hid hS; clear hS
  go_enter Tryd.func26, Tryd.ntmps26
  go_wp2_with fail
  refine (rof_told 136 31 A bs n c x _ (by omega) (by omega) (by omega) (by omega) h3' HR.out HN.out hm).mono ?_
  rw [HSE.out]
  rintro e' w1 ⟨v, rfl, hh, hB⟩
  have HH := Lib.hid hh; have HB := Lib.hid hB; clear hh hB
  obtain ⟨A', n', c', rfl, -⟩ := id HH.out
  go_wp2
  go_ret
  exact ⟨_, rfl, HH.out, HB.out⟩
end Go.Proofs.YtfhibjpkbbbfpaaDoor.Kec
