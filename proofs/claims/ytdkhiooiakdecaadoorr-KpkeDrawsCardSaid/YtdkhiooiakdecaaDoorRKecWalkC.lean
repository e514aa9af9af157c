/- Walks: turnedAndMoved. -/
import Derived.Test.YtdkhiooiakdecaaDoorRKecWalkB
import Derived.Deep.WholeRow
import Derived.StillTailTactics
import Derived.Laws.CopyOwn
namespace Go.Proofs.YtdkhiooiakdecaaDoorR.Kec
set_option linter.all false
open Go.RowKit

/-- an element of an array value whose elements have one cell -/
theorem run_index_one {P : Program} (t e : TypeId) (n : Nat) (d : TypeDesc) (cs : Array Value) (kd : IntKind) (k : Nat) (v : Value) (ht : P.underlying t = some (.array n e)) (he : P.underlying e = some d)
    (hd : (match d with | .struct _ | .array _ _ => true | _ => false) = false) (hs : (P.info? e).map (·.size) = some 1) (hk : k < n) (hv : cs[k]? = some v) (w : World) :
    (Instr.index t (.agg cs) (.int kd (k : Int))).run P w = .ok v w := by
  have ha : ∀ w, (isAgg e).run P w = .ok false w := fun w => by
    unfold isAgg
    rw [Sem.run_bind, run_underlying he w]
    cases d <;> simp_all
  cases hq : P.info? e with
  | none => simp [hq] at hs
  | some i =>
    have hs1 : i.size = 1 := by simpa [hq] using hs
    simp [Instr.index, asIntOf, run_underlying ht, sizeOf, typeInfo, hq, hs1, part, ha, hv, hk]

/-- a table of numbers that lies whole in a block -/
def numsOf (k : IntKind) (l : List Nat) : Array Value := (l.map fun x => Value.int k ((x : Nat) : Int)).toArray
theorem numsOf_at (k : IntKind) (l : List Nat) (i : Nat) (h : i < l.length) : (numsOf k l)[i]? = some (.int k ((gt l i : Nat) : Int)) := by
  simp [numsOf, gt, List.getD_eq_getElem?_getD, h]
def TabAt (w : World) (g : Nat) (k : IntKind) (l : List Nat) : Prop := ∃ t fr, w.heap[g]? = some (.cells (numsOf k l) t fr)
theorem TabAt.cell {w : World} {g : Nat} {k : IntKind} {l : List Nat} (h : TabAt w g k l) (i : Nat) (hi : i < l.length) : w.cell? ⟨g, i, none⟩ = some (.int k ((gt l i : Nat) : Int)) := by
  obtain ⟨t, fr, h⟩ := h
  rw [cell_of_row w g i _ t fr h, numsOf_at k l i hi]
theorem TabAt.of_block {w w' : World} {g : Nat} {k : IntKind} {l : List Nat} (h : TabAt w g k l) (e : w'.heap[g]? = w.heap[g]?) : TabAt w' g k l := by
  obtain ⟨t, fr, h⟩ := h
  exact ⟨t, fr, e.trans h⟩
theorem TabAt.lt {w : World} {g : Nat} {k : IntKind} {l : List Nat} (h : TabAt w g k l) : g < w.heap.size := by
  obtain ⟨t, fr, h⟩ := h
  obtain ⟨hlt, _⟩ := Array.getElem?_eq_some_iff.1 h
  exact hlt
/-- the three tables of the package, as they lie -/
structure Tables (w : World) : Prop where
  rounds : TabAt w 0 .u64 roundsT
  turns : TabAt w 2 .i64 turnsT
  places : TabAt w 1 .i64 placesT
theorem Tables.keep {w w' : World} (h : Tables w) (e : ∀ g, g < 3 → w'.heap[g]? = w.heap[g]?) : Tables w' :=
  ⟨h.rounds.of_block (e _ (by decide)), h.turns.of_block (e _ (by decide)), h.places.of_block (e _ (by decide))⟩
theorem Tables.lt {w : World} (h : Tables w) : 3 ≤ w.heap.size := by
  have h1 := h.rounds.lt; have h2 := h.turns.lt; have h3 := h.places.lt; omega
theorem Tables.grown {w w' : World} {b : Nat} (h : Tables w) (hg : w.grownBy w' (some b)) (hb : 3 ≤ b) : Tables w' :=
  h.keep fun g hlt => hg.block g (by have := h.lt; omega) (by intro e; injection e; omega)
theorem Tables.below {w w' : World} {B : Nat} (h : Tables w) (hg : Below B w w') (hb : 3 ≤ B) : Tables w' := h.keep fun g hlt => hg.block g (by omega)
theorem Tables.alloc {w : World} (h : Tables w) (o : Obj) : Tables (w.alloc o) := h.keep fun g hlt => Below.heap_alloc w o g (by have := h.lt; omega)
theorem Tables.drew {w : World} (h : Tables w) : Tables w.drew := h.keep fun _ _ => rfl
theorem Tables.drewN {w : World} (h : Tables w) (n : Nat) : Tables (w.drewN n) := h.keep fun _ _ => rfl
theorem Tables.set {w : World} (h : Tables w) {a : Addr} (ha : 3 ≤ a.block) (v : Value) : Tables (w.setCell a v) := h.keep fun g hlt => Below.heap_setCell w a v g (by omega)

def wordRow (ws : List Nat) : Nat → Value := fun i => .int .u64 ((gt ws i : Nat) : Int)
def words (ws : List Nat) : Array Value := numsOf .u64 ws

theorem heap_words {w : World} {g : Nat} {t : TypeId} {ws : List Nat} (h : w.rowIs g t 25 (wordRow ws)) (hl : ws.length = 25) : w.heap[g]? = some (.cells (words ws) t (0, 0)) := by
  obtain ⟨c, hc, hs, hi⟩ := h
  have e : c = words ws := by
    apply Array.ext_getElem?
    intro i
    by_cases h : i < 25
    · rw [hi i h, words, numsOf_at .u64 ws i (by omega)]; rfl
    · rw [Array.getElem?_eq_none (by omega), Array.getElem?_eq_none (by simp [words, numsOf]; omega)]
  rw [hc, e]
theorem words_size (ws : List Nat) : (words ws).size = ws.length := by simp [words, numsOf]
theorem words_one (ws : List Nat) : (words ws).all (·.oneCell') = true := by
  simp [words, numsOf, Value.oneCell']
theorem row_movedTo {w : World} {g : Nat} {ws : List Nat} {k : Nat} (h : w.rowIs g 62 25 (wordRow (movedTo ws k))) (hO : Ok ws) (hk : k < 25) :
    (w.setCell ⟨g, gt placesT k, none⟩ (.int .u64 ((rotl (gt ws k) (gt turnsT k) : Nat) : Int))).rowIs g 62 25 (wordRow (movedTo ws (k + 1))) := by
  refine (h.set (gt placesT k) _).congr fun i _ => ?_
  unfold wordRow
  rw [show movedTo ws (k + 1) = (movedTo ws k).set (gt placesT k) (rotl (gt ws k) (gt turnsT k)) from rfl, gt_set _ _ _ _ (by rw [(ok_movedTo hO k (by omega)).1]; exact places_lt k hk)]
  split <;> rfl

set_option maxHeartbeats 2000000 in
set_option maxRecDepth 100000 in
theorem turned_any (b t n o : Nat) (f : Nat → Value) (ws : List Nat) (w : World) (hS : St w b t n f o ws) (hO : Ok ws) (hT : Tables w) :
    Calls Tryd.prog 63 #[.pointer (some ⟨b, o, none⟩)] w fun e w' => e = .returned (.agg (words (moved ws))) ∧ Below w.heap.size w w' := by
  have hlt := hS.lt
  have h3 := hT.lt
  have HS := Lib.hid hS; clear hS
  have HO := Lib.hid hO; clear hO
  obtain ⟨tt, fr, hpl⟩ := ((hT.alloc (.cells (words zeros) 62)).alloc (.cells (words zeros) 62)).places
  have HT := Lib.hid hT; clear hT
  go_enter Tryd.func63, Tryd.ntmps63
  go_wp2_with (refine wpList_load_row rfl 84 _ rfl 1 rfl tt _ fr _ hpl Tryd.underlying84 rfl (by kernel_rfl) ?_)
  go_loopw [7] (fun i W => ∃ k : Nat, k ≤ 25 ∧ i = .int .i64 k ∧ Hid (St W b t n f o ws) ∧ Hid (Tables W) ∧ Hid (W.rowIs (w.heap.size + 1) 62 25 (wordRow (movedTo ws k))) ∧ Hid (W.rowIs w.heap.size 62 25 (wordRow zeros)) ∧ Hid (Below w.heap.size w W)) (fun i _ => 25 - (intOf i).toNat)
  case atStart =>
    have z : ∀ i, i < (words zeros).size → (words zeros)[i]? = some (wordRow zeros i) := fun i hi => numsOf_at .u64 zeros i (by simpa [words, numsOf] using hi)
    have r1 := World.rowIs_alloc w (words zeros) 62 (wordRow zeros) z
    have r2 := World.rowIs_alloc (w.alloc (.cells (words zeros) 62)) (words zeros) 62 (wordRow zeros) z
    have e : (w.alloc (.cells (words zeros) 62)).heap.size = w.heap.size + 1 := by simp
    rw [e] at r2
    exact ⟨0, by omega, rfl, Lib.hid ((HS.out.alloc _).alloc _), Lib.hid ((HT.out.alloc _).alloc _), Lib.hid r2, Lib.hid (r1.alloc _), Lib.hid (((Below.refl _ _).alloc (Nat.le_refl _) _).alloc (by simp) _)⟩
  case round =>
    obtain ⟨k, hk, rfl, HS1, HT1, HR1, HZ1, HB1⟩ := hrel
    by_cases hlt5 : k < 25
    · have c0 := HS1.out.cell k hlt5
      have c1 := HT1.out.turns.cell k hlt5
      have hp := places_lt k hlt5
      have ht := turns_lt k hlt5
      have d0 := HR1.out.cell (i := gt placesT k) hp
      have d1 := HR1.out.frozen (gt placesT k)
      have hix := run_index_one (P := Tryd.prog) 84 3 25 _ (numsOf .i64 placesT) .i64 k _ Tryd.underlying84 Tryd.underlying3 rfl (by kernel_rfl) hlt5 (numsOf_at .i64 placesT k hlt5)
      go_wp2
      refine wp_region_still_tail 10 (by kernel_rfl) (by kernel_rfl) ?_
      simp only [List.take_succ_cons, List.take_zero, List.drop_succ_cons, List.drop_zero]
      repeat still_step
      still_call (rot_same _ _ _ (HO.out.2 _) ht)
      refine wpStill_nil ?_
      change wpList _ _ _ _ _ wr.drew
      go_wp2
      go_roundw
      case rel =>
        exact ⟨k + 1, by omega, by go_num, Lib.hid (HS1.out.far (by show b ≠ w.heap.size + 1; omega) _).drew, Lib.hid (HT1.out.set (by show 3 ≤ w.heap.size + 1; omega) _).drew, Lib.hid (row_movedTo HR1.out HO.out hlt5).drew,
          Lib.hid (HZ1.out.setOther (by show w.heap.size ≠ w.heap.size + 1; omega) _).drew, Lib.hid (HB1.out.setCell (by show w.heap.size ≤ w.heap.size + 1; omega) _).drew⟩
      case measure => simp [intOf]; omega
    · obtain rfl : k = 25 := by omega
      have hl : (movedTo ws 25).length = 25 := (ok_movedTo HO.out 25 (Nat.le_refl _)).1
      have hm : moved ws = movedTo ws 25 := rfl
      generalize movedTo ws 25 = m at *
      have hc := heap_words HR1.out hl
      have hz := heap_words HZ1.out ok_zeros.1
      have hi : (Tryd.prog.info? 62).map (·.size) = some (words m).size := by rw [words_size, hl]; kernel_rfl
      have hzm : (words zeros).size = (words m).size := by rw [words_size, words_size, ok_zeros.1, hl]
      have HC := Lib.hid hc; have HZ := Lib.hid hz; have HZM := Lib.hid hzm; have HI := Lib.hid hi; have HM := Lib.hid hm; clear hc hz hl hi hzm hm
      go_wp2_with (first | (refine wpList_load_row rfl 62 (.tmp 3) rfl (w.heap.size + 1) rfl 62 (words m) (0, 0) _ HC.out Tryd.underlying62 rfl HI.out ?_) | (refine wpList_store_row rfl 62 (.tmp 2) (.tmp 23) rfl w.heap.size (words m) rfl rfl 62 (words zeros) HZ.out HI.out HZM.out (words_one _) ?_))
      refine bodyPost_ret (v := .agg (words m)) (results_cell_row (p := 2) (ty := 62) (by kernel_rfl) _ _ w.heap.size 62 (words m) (0, 0) _ rfl (setRow_heap _ _ _ _ _ _ HZ.out) Tryd.underlying62 rfl HI.out) rfl ⟨by rw [HM.out], below_setRow HB1.out (Nat.le_refl _) _⟩

end Go.Proofs.YtdkhiooiakdecaaDoorR.Kec
