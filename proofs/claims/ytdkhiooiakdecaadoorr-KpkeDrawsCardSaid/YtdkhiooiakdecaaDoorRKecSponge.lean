/- Plain mathematics of the sponge: taking and giving; nothing of the program. -/
import Derived.Test.YtdkhiooiakdecaaDoorRKecPlain
namespace Go.Proofs.YtdkhiooiakdecaaDoorR.Kec
set_option linter.all false

/-- behind one byte, taken or given -/
def stepAt (r : Nat) (s : Nat × List Nat) : Nat × List Nat := if s.1 + 1 = r then (0, change s.2) else (s.1 + 1, s.2)
def Good (r : Nat) (s : Nat × List Nat) : Prop := s.1 < r ∧ Ok s.2
theorem good_step {r : Nat} {s : Nat × List Nat} (h : Good r s) : Good r (stepAt r s) := by
  obtain ⟨h1, h2⟩ := h
  unfold stepAt
  split
  · exact ⟨by show 0 < r; omega, ok_change h2⟩
  · exact ⟨by show s.1 + 1 < r; omega, h2⟩
def takeOne (r : Nat) (s : Nat × List Nat) (v : Nat) : Nat × List Nat := stepAt r (s.1, lay s.2 s.1 v)
theorem good_takeOne {r : Nat} {s : Nat × List Nat} (h : Good r s) (hr : r ≤ 192) (v : Nat) : Good r (takeOne r s v) :=
  good_step ⟨h.1, ok_lay h.2 _ _ (by have := h.1; omega)⟩
def takeAll (r : Nat) (s : Nat × List Nat) (l : List Nat) : Nat × List Nat := l.foldl (takeOne r) s
theorem good_takeAll {r : Nat} (hr : r ≤ 192) : ∀ (l : List Nat) {s : Nat × List Nat}, Good r s → Good r (takeAll r s l)
  | [], _, h => h
  | v :: l, _, h => good_takeAll hr l (good_takeOne h hr v)
theorem takeAll_append (r : Nat) (s : Nat × List Nat) (a b : List Nat) : takeAll r s (a ++ b) = takeAll r (takeAll r s a) b := by
  unfold takeAll; rw [List.foldl_append]
theorem takeAll_snoc (r : Nat) (s : Nat × List Nat) (l : List Nat) (k : Nat) (h : k < l.length) : takeAll r s (l.take (k + 1)) = takeOne r (takeAll r s (l.take k)) (gt l k) := by
  have e : l.take (k + 1) = l.take k ++ [gt l k] := by
    rw [List.take_succ_eq_append_getElem h]
    simp [gt, List.getD_eq_getElem?_getD, h]
  rw [e, takeAll_append]; rfl
/-- it turns to giving -/
def turned (r e : Nat) (s : Nat × List Nat) : Nat × List Nat := (0, change (lay (lay s.2 s.1 e) (r - 1) 128))
theorem good_turned {r : Nat} (e : Nat) {s : Nat × List Nat} (h : Good r s) (h0 : 0 < r) (hr : r ≤ 192) : Good r (turned r e s) :=
  ⟨h0, ok_change (ok_lay (ok_lay h.2 _ _ (by have := h.1; omega)) _ _ (by omega))⟩
def after (r : Nat) (s : Nat × List Nat) : Nat → Nat × List Nat
  | 0 => s
  | n + 1 => stepAt r (after r s n)
theorem good_after {r : Nat} {s : Nat × List Nat} (h : Good r s) : ∀ n, Good r (after r s n)
  | 0 => h
  | n + 1 => good_step (good_after h n)
theorem after_add (r : Nat) (s : Nat × List Nat) (n : Nat) : ∀ m, after r (after r s n) m = after r s (n + m)
  | 0 => rfl
  | m + 1 => by
    show stepAt r (after r (after r s n) m) = stepAt r (after r s (n + m))
    rw [after_add r s n m]
def outAt (r : Nat) (s : Nat × List Nat) (i : Nat) : Nat := byteAt (after r s i).2 (after r s i).1
def outs (r : Nat) (s : Nat × List Nat) (n : Nat) : List Nat := (List.range n).map (outAt r s)
theorem outs_len (r : Nat) (s : Nat × List Nat) (n : Nat) : (outs r s n).length = n := by simp [outs]
theorem outAt_add (r : Nat) (s : Nat × List Nat) (n i : Nat) : outAt r (after r s n) i = outAt r s (n + i) := by
  unfold outAt; rw [after_add]
theorem outs_add (r : Nat) (s : Nat × List Nat) (n m : Nat) : outs r s n ++ outs r (after r s n) m = outs r s (n + m) := by
  unfold outs
  rw [List.range_add, List.map_append, List.map_map]
  congr 1
  apply List.map_congr_left
  intro i _
  exact outAt_add r s n i
theorem outs_take (r : Nat) (s : Nat × List Nat) (n m : Nat) : (outs r s (n + m)).take n = outs r s n := by
  rw [← outs_add, List.take_left' (outs_len r s n)]
theorem outs_lt (r : Nat) (s : Nat × List Nat) (n : Nat) : ∀ x ∈ outs r s n, x < 256 := by
  intro x hx
  unfold outs at hx
  obtain ⟨i, _, rfl⟩ := List.mem_map.1 hx
  exact byteAt_lt _ _
theorem gt_outs (r : Nat) (s : Nat × List Nat) (n i : Nat) (h : i < n) : gt (outs r s n) i = outAt r s i := by
  unfold gt outs
  rw [List.getD_eq_getElem?_getD, List.getElem?_map, List.getElem?_range h]; rfl
def start : Nat × List Nat := (0, zeros)
theorem good_start {r : Nat} (h : 0 < r) : Good r start := ⟨h, ok_zeros⟩
/-- a sponge that took all of l gives n bytes -/
def sponge (r e : Nat) (l : List Nat) (n : Nat) : List Nat := outs r (turned r e (takeAll r start l)) n

end Go.Proofs.YtdkhiooiakdecaaDoorR.Kec
