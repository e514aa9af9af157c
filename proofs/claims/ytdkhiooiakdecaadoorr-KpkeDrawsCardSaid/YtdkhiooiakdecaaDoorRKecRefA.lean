/- Walks of the document's own: turned, turns, constants. -/
import Derived.Test.YtdkhiooiakdecaaDoorRKecRefPlain
import Derived.Test.YtdkhiooiakdecaaDoorRKecMid
import Derived.Laws.DeepNot64
namespace Go.Proofs.YtdkhiooiakdecaaDoorR.Kec
set_option linter.all false
open Go.RowKit

set_option maxHeartbeats 400000 in
theorem rturned_any (x k : Nat) (w : World) (hx : x < 18446744073709551616) (hk : k < 64) :
    Calls Tryd.prog 67 #[.int .u64 x, .int .i64 k] w fun e w' => e = .returned (.int .u64 (rotl x k : Nat)) ∧ ∃ n, w' = w.drewN n := by
  have hr := rotl_bits x k hx
  go_enter Tryd.func67, Tryd.ntmps67
  go_wp2
  go_quiet (fail)
  go_wp2
  go_ret
  exact ⟨rfl, _, rfl⟩

def nums (k : IntKind) (l : List Nat) : Nat → Value := fun i => .int k ((gt l i : Nat) : Int)
theorem heap_nums {w : World} {g n : Nat} {t : TypeId} {k : IntKind} {l : List Nat} (h : w.rowIs g t n (nums k l)) (hl : l.length = n) : w.heap[g]? = some (.cells (numsOf k l) t (0, 0)) := by
  obtain ⟨c, hc, hs, hi⟩ := h
  have e : c = numsOf k l := by
    apply Array.ext_getElem?
    intro i
    by_cases h : i < n
    · rw [hi i h, numsOf_at k l i (by omega)]; rfl
    · rw [Array.getElem?_eq_none (by omega), Array.getElem?_eq_none (by simp [numsOf]; omega)]
  rw [hc, e]
theorem rowIs_nums {w : World} {g n : Nat} {t : TypeId} {k : IntKind} {l : List Nat} (h : w.heap[g]? = some (.cells (numsOf k l) t (0, 0))) (hl : l.length = n) : w.rowIs g t n (nums k l) :=
  ⟨numsOf k l, h, by simp [numsOf, hl], fun i hi => numsOf_at k l i (by omega)⟩
theorem nums_set {w : World} {g n : Nat} {t : TypeId} {k : IntKind} {l : List Nat} (h : w.rowIs g t n (nums k l)) (hl : l.length = n) (i v : Nat) (hi : i < n) : (w.setCell ⟨g, i, none⟩ (.int k ((v : Nat) : Int))).rowIs g t n (nums k (l.set i v)) := by
  refine (h.set i _).congr fun j _ => ?_
  unfold nums
  rw [gt_set _ _ _ _ (by omega)]
  split <;> rfl
theorem numsOf_size (k : IntKind) (l : List Nat) : (numsOf k l).size = l.length := by simp [numsOf]
theorem numsOf_one (k : IntKind) (l : List Nat) : (numsOf k l).all (·.oneCell') = true := by simp [numsOf, Value.oneCell']

set_option maxHeartbeats 1000000 in
set_option maxRecDepth 100000 in
theorem rturns_any (w : World) : Calls Tryd.prog 65 #[] w fun e w' => e = .returned (.agg (numsOf .i64 rturns)) ∧ Below w.heap.size w w' := by
  go_enter Tryd.func65, Tryd.ntmps65
  go_wp2
  go_loopw [2, 3, 4] (fun x y i W => ∃ k : Nat, k ≤ 24 ∧ i = .int .i64 k ∧ x = .int .i64 ((xyTo k).1 : Nat) ∧ y = .int .i64 ((xyTo k).2 : Nat) ∧ Hid (W.rowIs (w.heap.size + 1) 80 25 (nums .i64 (trTo k))) ∧ Hid (W.rowIs w.heap.size 80 25 (nums .i64 zeros)) ∧ Hid (Below w.heap.size w W)) (fun _ _ i _ => 24 - (intOf i).toNat)
  case atStart =>
    have z : ∀ i, i < (numsOf .i64 zeros).size → (numsOf .i64 zeros)[i]? = some (nums .i64 zeros i) := fun i hi => numsOf_at .i64 zeros i (by simpa [numsOf] using hi)
    have r1 := World.rowIs_alloc w (numsOf .i64 zeros) 80 (nums .i64 zeros) z
    have r2 := World.rowIs_alloc (w.alloc (.cells (numsOf .i64 zeros) 80)) (numsOf .i64 zeros) 80 (nums .i64 zeros) z
    have e : (w.alloc (.cells (numsOf .i64 zeros) 80)).heap.size = w.heap.size + 1 := by simp
    rw [e] at r2
    exact ⟨0, by omega, rfl, rfl, rfl, Lib.hid r2, Lib.hid (r1.alloc _), Lib.hid (((Below.refl _ _).alloc (Nat.le_refl _) _).alloc (by simp) _)⟩
  case round =>
    obtain ⟨k, hk, rfl, rfl, rfl, HR1, HZ1, HB1⟩ := hrel
    by_cases hlt : k < 24
    · obtain ⟨hx, hy⟩ := xy_lt k
      have hnx : (xyTo (k + 1)).1 = (xyTo k).2 := rfl
      have hny : (xyTo (k + 1)).2 = (2 * (xyTo k).1 + 3 * (xyTo k).2) % 5 := rfl
      have htr : trTo (k + 1) = (trTo k).set ((xyTo k).1 * 5 + (xyTo k).2) ((k + 1) * (k + 2) / 2 % 64) := rfl
      generalize (xyTo k).1 = x at *
      generalize (xyTo k).2 = y at *
      have HNX := Lib.hid hnx; have HNY := Lib.hid hny; have HTR := Lib.hid htr; clear hnx hny htr
      have d0 := HR1.out.cell (i := x * 5 + y) (by omega)
      have d1 := HR1.out.frozen (x * 5 + y)
      have hb1 : ((k : Int) + 1) * ((k : Int) + 2) ≤ 1000 := by
        have h1 : ((k : Int) + 1) * ((k : Int) + 2) ≤ 25 * 26 := Int.mul_le_mul (by omega) (by omega) (by omega) (by omega)
        omega
      have hb0 : 0 ≤ ((k : Int) + 1) * ((k : Int) + 2) := Int.mul_nonneg (by omega) (by omega)
      go_wp2
      go_roundw
      case rel =>
        have hval : (((k : Int) + 1) * ((k : Int) + 2) / 2 % 64) = (((k + 1) * (k + 2) / 2 % 64 : Nat) : Int) := by simp
        have hnx : ((xyTo (k + 1)).1 : Int) = (y : Int) := by rw [HNX.out]
        have hny : ((xyTo (k + 1)).2 : Int) = (2 * (x : Int) + 3 * (y : Int)) % 5 := by rw [HNY.out]; simp
        refine ⟨k + 1, by omega, by go_num, by rw [hnx], by rw [hny], Lib.hid ?_, Lib.hid (HZ1.out.setOther (by show w.heap.size ≠ w.heap.size + 1; omega) _), Lib.hid (HB1.out.setCell (by show w.heap.size ≤ w.heap.size + 1; omega) _)⟩
        rw [HTR.out, hval]
        exact nums_set HR1.out (trTo_len k) _ _ (by omega)
      case measure => simp [intOf]; omega
    · obtain rfl : k = 24 := by omega
      have hl := rturns_len
      have h24 := trTo_all
      rw [h24] at HR1
      have hc := heap_nums HR1.out hl
      have hz := heap_nums HZ1.out ok_zeros.1
      generalize hm : rturns = m at *
      have hi : (Tryd.prog.info? 80).map (·.size) = some (numsOf .i64 m).size := by rw [numsOf_size, hl]; kernel_rfl
      have hzm : (numsOf .i64 zeros).size = (numsOf .i64 m).size := by rw [numsOf_size, numsOf_size, ok_zeros.1, hl]
      have HC := Lib.hid hc; have HZ := Lib.hid hz; have HZM := Lib.hid hzm; have HI := Lib.hid hi; have HM := Lib.hid hm; clear hc hz hl hi hzm h24 hm
      go_wp2_with (first | (refine wpList_load_row rfl 80 (.tmp 1) rfl (w.heap.size + 1) rfl 80 (numsOf .i64 m) (0, 0) _ HC.out Tryd.underlying80 rfl HI.out ?_) | (refine wpList_store_row rfl 80 (.tmp 0) (.tmp 29) rfl w.heap.size (numsOf .i64 m) rfl rfl 80 (numsOf .i64 zeros) HZ.out HI.out HZM.out (numsOf_one _ _) ?_))
      refine bodyPost_ret (v := .agg (numsOf .i64 m)) (results_cell_row (p := 0) (ty := 80) (by kernel_rfl) _ _ w.heap.size 80 (numsOf .i64 m) (0, 0) _ rfl (setRow_heap _ _ _ _ _ _ HZ.out) Tryd.underlying80 rfl HI.out) rfl ⟨by rw [HM.out], below_setRow HB1.out (Nat.le_refl _) _⟩

end Go.Proofs.YtdkhiooiakdecaaDoorR.Kec
