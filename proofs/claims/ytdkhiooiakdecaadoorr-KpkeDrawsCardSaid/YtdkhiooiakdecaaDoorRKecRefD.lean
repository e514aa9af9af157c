/- Walks of the document's own: lay, New; its words loaded and stored whole. -/
import Derived.Test.YtdkhiooiakdecaaDoorRKecRefC
import Derived.Test.YtdkhiooiakdecaaDoorRKecMid
import Derived.Deep.MidRow
namespace Go.Proofs.YtdkhiooiakdecaaDoorR.Kec
set_option linter.all false
open Go.RowKit

theorem rowIs_setCells {b : Nat} {t : TypeId} {n : Nat} : ∀ (vs : List Value) (o : Nat) (w : World) (f : Nat → Value), w.rowIs b t n f → (w.setCells b o vs).rowIs b t n (fun j => if o ≤ j ∧ j < o + vs.length then vs.getD (j - o) undef else f j)
  | [], o, w, f, h => h.congr fun j _ => by rw [if_neg (by rintro ⟨h1, h2⟩; simp at h2; omega)]
  | v :: vs, o, w, f, h => by
    refine (rowIs_setCells vs (o + 1) (w.setCell ⟨b, o, none⟩ v) _ (h.set o v)).congr fun j _ => ?_
    by_cases h1 : o + 1 ≤ j ∧ j < o + 1 + vs.length
    · rw [if_pos h1, if_pos (by simp; omega)]
      rw [show j - o = (j - (o + 1)) + 1 by omega]; rfl
    · rw [if_neg h1]
      by_cases h2 : j = o
      · subst h2; rw [if_pos rfl, if_pos (by simp)]; simp
      · rw [if_neg h2, if_neg (by simp at h1 ⊢; omega)]
theorem only_setCells {a : World} {b : Nat} : ∀ (vs : List Value) (o : Nat) (w : World), a.grownBy w (some b) → a.grownBy (w.setCells b o vs) (some b)
  | [], _, _, h => h
  | v :: vs, o, w, h => only_setCells vs (o + 1) (w.setCell ⟨b, o, none⟩ v) (only_set h (.inl rfl) v)
section
variable {w : World} {b n o : Nat} {t : TypeId} {f : Nat → Value} {ws us : List Nat}
theorem words_at (us : List Nat) (j : Nat) (h : j < us.length) : (words us).toList[j]? = some (.int .u64 ((gt us j : Nat) : Int)) := by
  rw [Array.getElem?_toList]; exact numsOf_at .u64 us j h
theorem St.range (h : St w b t n f o ws) (hl : ws.length = 25) : w.rangeAt b o (words ws).toList := by
  intro j v hv
  have hj : j < 25 := by
    rcases Nat.lt_or_ge j 25 with h | h
    · exact h
    · rw [List.getElem?_eq_none (by simp [words_size]; omega)] at hv; cases hv
  rw [words_at ws j (by omega)] at hv
  rw [h.cell j hj, ← hv]
theorem St.there (h : St w b t n f o ws) : w.there b o 25 := fun j hj => ⟨by rw [h.cell j hj]; rfl, h.frozen _⟩
theorem St.cells (h : St w b t n f o ws) (hl : us.length = 25) : St (w.setCells b o (words us).toList) b t n f o us := by
  refine ⟨h.1, (rowIs_setCells _ _ _ _ h.2).congr fun j _ => ?_⟩
  have hs : (words us).toList.length = 25 := by simp [words_size, hl]
  rw [hs]
  unfold put
  by_cases hj : o ≤ j ∧ j < o + 25
  · rw [if_pos hj, if_pos hj, List.getD_eq_getElem?_getD, words_at us _ (by omega)]; rfl
  · rw [if_neg hj, if_neg hj, if_neg hj]
end

def RSp (w : World) (g r e : Nat) (gv : Bool) (s : Nat × List Nat) : Prop := St w g 74 29 (spF r e s.1 gv) 2 (tp s.2)
section
variable {w : World} {g r e : Nat} {gv : Bool} {s : Nat × List Nat}
theorem RSp.rate (h : RSp w g r e gv s) : w.cell? ⟨g, 0, none⟩ = some (.int .i64 (r : Nat)) := by
  rw [h.2.cell (by omega), put_out _ _ _ _ (by omega)]; rfl
theorem RSp.end_ (h : RSp w g r e gv s) : w.cell? ⟨g, 1, none⟩ = some (.int .u8 (e : Nat)) := by
  rw [h.2.cell (by omega), put_out _ _ _ _ (by omega)]; rfl
theorem RSp.at_ (h : RSp w g r e gv s) : w.cell? ⟨g, 27, none⟩ = some (.int .i64 (s.1 : Nat)) := by
  rw [h.2.cell (by omega), put_out _ _ _ _ (by omega)]; rfl
theorem RSp.gives (h : RSp w g r e gv s) : w.cell? ⟨g, 28, none⟩ = some (.bool gv) := by
  rw [h.2.cell (by omega), put_out _ _ _ _ (by omega)]; rfl
theorem RSp.frozen (h : RSp w g r e gv s) (i : Nat) : w.frozen? ⟨g, i, none⟩ = false := h.2.frozen i
theorem RSp.setAt (h : RSp w g r e gv s) (a : Nat) : RSp (w.setCell ⟨g, 27, none⟩ (.int .i64 (a : Nat))) g r e gv (a, s.2) := by
  refine ⟨h.1, (h.2.set 27 (.int .i64 (a : Nat))).congr fun j hj => ?_⟩
  by_cases e27 : j = 27
  · subst e27; rw [if_pos rfl, put_out _ _ _ _ (by omega)]; rfl
  · rw [if_neg e27]
    unfold put
    split
    · rfl
    · unfold spF
      split <;> first | rfl | omega | simp_all
theorem RSp.setGives (h : RSp w g r e gv s) (b : Bool) : RSp (w.setCell ⟨g, 28, none⟩ (.bool b)) g r e b s := by
  refine ⟨h.1, (h.2.set 28 (.bool b)).congr fun j hj => ?_⟩
  by_cases e27 : j = 28
  · subst e27; rw [if_pos rfl, put_out _ _ _ _ (by omega)]; rfl
  · rw [if_neg e27]
    unfold put
    split
    · rfl
    · unfold spF
      split <;> first | rfl | omega | simp_all
end
theorem rchange_words (ws : List Nat) (w : World) (hO : Ok ws) :
    Calls Tryd.prog 61 #[.agg (words (tp ws))] w fun e w' => e = .returned (.agg (words (tp (change ws)))) ∧ Below w.heap.size w w' := by
  have := rchange_any (tp ws) w (ok_tp hO)
  rw [change_tp hO 24 (Nat.le_refl _)] at this
  exact this

set_option maxHeartbeats 1000000 in
set_option maxRecDepth 100000 in
theorem rlay_any (g r e i v : Nat) (gv : Bool) (s : Nat × List Nat) (w : World) (hi : i < 200) (hv : v < 256) (hS : RSp w g r e gv s) (hO : Ok s.2) :
    Calls Tryd.prog 60 #[.pointer (some ⟨g, 0, none⟩), .int .i64 i, .int .u8 v] w fun e' w' => e' = .returned (.tuple #[]) ∧ RSp w' g r e gv (s.1, lay s.2 i v) ∧ w.grownBy w' (some g) := by
  obtain ⟨a, ws⟩ := s
  have hx : gt (tp ws) (5 * (i / 8 % 5) + i / 8 / 5) = gt ws (i / 8) := gt_tp ws (i / 8) (by omega)
  have c0 : w.cell? ⟨g, 2 + i / 8 % 5 * 5 + i / 8 / 5, none⟩ = some (.int .u64 (gt ws (i / 8) : Nat)) := by
    have := hS.cell (5 * (i / 8 % 5) + i / 8 / 5) (by omega)
    rw [hx] at this
    rw [← this]; congr 2; omega
  have f0 := hS.frozen (2 + i / 8 % 5 * 5 + i / 8 / 5)
  have hxr := layw_bits ws i v hO
  have HS := Lib.hid hS; have HO := Lib.hid hO; clear hS hO hx
  go_enter Tryd.func60, Tryd.ntmps60
  go_wp2
  go_region
  go_end0
  refine ⟨rfl, ?_, only_drew (only_set (World.grownBy.refl _ _) (.inl rfl) _)⟩
  have h1 := St.set HS.out (ok_tp HO.out).1 (5 * (i / 8 % 5) + i / 8 / 5) (layw ws i v) (by omega)
  rw [tp_set HO.out.1 (i / 8) (layw ws i v) (by omega)] at h1
  have e : 2 + (5 * (i / 8 % 5) + i / 8 / 5) = 2 + i / 8 % 5 * 5 + i / 8 / 5 := by omega
  rw [e] at h1
  exact h1.drew

set_option maxHeartbeats 1000000 in
set_option maxRecDepth 100000 in
theorem rnew_bad (r : Int) (e : Nat) (w : World) (h : r < 8 ∨ 192 < r ∨ r % 8 ≠ 0) :
    Calls Tryd.prog 54 #[.int .i64 r, .int .u8 e] w fun e' w' => e' = .returned (.pointer none) ∧ w = w' := by
  by_cases h1 : r < 8
  · go_enter Tryd.func54, Tryd.ntmps54
    go_wp2
    go_ret
    exact ⟨rfl, rfl⟩
  · by_cases h2 : 192 < r
    · go_enter Tryd.func54, Tryd.ntmps54
      go_wp2
      go_ret
      exact ⟨rfl, rfl⟩
    · have h3 : (r % 8 != 0) = true := by rw [bne_iff_ne]; omega
      go_enter Tryd.func54, Tryd.ntmps54
      go_wp2
      go_ret
      exact ⟨rfl, rfl⟩
theorem tp_zeros : tp zeros = zeros := by decide +kernel

set_option maxHeartbeats 1000000 in
set_option maxRecDepth 100000 in
theorem rnew_any (r e : Nat) (w : World) (h1 : 8 ≤ r) (h2 : r ≤ 192) (h3 : r % 8 = 0) :
    Calls Tryd.prog 54 #[.int .i64 r, .int .u8 e] w fun e' w' => e' = .returned (.pointer (some ⟨w.heap.size, 0, none⟩)) ∧ RSp w' w.heap.size r e false start ∧ Below w.heap.size w w' ∧ w'.heap.size = w.heap.size + 1 := by
  have hd : ((r : Int) % 8 != 0) = false := by rw [bne_eq_false_iff_eq]; omega
  have h4 : ¬ ((r : Int) < 8) := by omega
  have h5 : ¬ (192 < (r : Int)) := by omega
  clear h3
  go_enter Tryd.func54, Tryd.ntmps54
  go_wp2
  go_ret
  refine ⟨rfl, ?_, (Below.refl _ _).alloc (Nat.le_refl _) _, by simp⟩
  unfold RSp
  rw [show tp start.2 = zeros from tp_zeros]
  exact ⟨by omega, World.rowIs_alloc w _ 74 (put (spF r e 0 false) 2 zeros) fun i hi => new_cells r e i hi⟩

end Go.Proofs.YtdkhiooiakdecaaDoorR.Kec
