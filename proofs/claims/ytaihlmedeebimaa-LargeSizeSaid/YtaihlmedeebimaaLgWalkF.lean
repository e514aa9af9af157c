/- Walks: turned, powers. -/
import Derived.Test.YtaihlmedeebimaaLgWalkD
namespace Go.Proofs.Ytaihlmedeebimaa.Lg
open Go.RowKit
set_option linter.all false

/-- a byte of a constant string, at a variable index -/
theorem wpList_index_str {P : Program} {ops : Array Oper} {rest : List Oper} {o : Oper} {a : Act} {w : World} {Q : Exit → Act → World → Prop} (hgd : o.guard = none) (t : TypeId) (S : ByteArray) (x : Operand) (ho : o.op = .index t (.const (.string S)) x)
    (k : IntKind) (i : Nat) (hx : a.eval x = .int k (i : Int)) (hu : P.underlying t = some .string) (n : Nat) (v : Nat → Nat) (hs : S.size = n) (hi : i < n) (hv : ∀ i, i < n → (S.data.toList.getD i 0).toNat = v i)
    (h : wpList P ops Q rest (a.put o.dst (.int .u8 (v i : Nat))) w) : wpList P ops Q (o :: rest) a w := by
  refine wpList_plain hgd fun K hK => ?_
  have hsz : i < S.size := by omega
  have hr : (Instr.index t (.string S) (.int k (i : Int))).run P w = .ok (.int .u8 (v i : Nat)) w := by
    rw [run_index_string w t S k i hu, dif_pos ⟨by omega, by omega⟩]
    have h1 := hv i hi
    have h2 : S[i] = S.data.toList.getD i 0 := by
      have h3 : i < S.data.toList.length := by simpa using hsz
      rw [List.getD_eq_getElem?_getD, List.getElem?_eq_getElem h3]; rfl
    have h4 : (((i : Int).toNat) : Nat) = i := by omega
    simp only [h4]
    rw [h2, h1]
  have hc : a.eval (.const (.string S)) = .string S := rfl
  unfold Oper.wp execOp
  simp only [ho, hx, hc, hr, Sem.run_bind, Sem.run_pure, Result.andThen_ok]
  exact hK _ _ h

set_option maxHeartbeats 400000 in
theorem rev_any (i : Nat) (w : World) (hi : i < 256) :
    Calls Try.prog 47 #[.int .u8 i] w fun e w' => e = .returned (.int .u8 (tn i : Nat)) ∧ w = w' := by
  go_enter Try.func47, Try.ntmps47
  go_wp2_with (refine wpList_index_str rfl _ _ (.tmp 3) rfl .u8 i rfl Try.underlying9 256 tn (by decide +kernel) hi (by decide +kernel) ?_)
  go_ret
  exact ⟨rfl, rfl⟩
set_option maxHeartbeats 400000 in
theorem turned_any (i : Nat) (w : World) (hi : i < 256) :
    Calls Try.prog 46 #[.int .i64 i] w fun e w' => e = .returned (.int .i64 (tn i : Nat)) ∧ w = w' := by
  have h1 := tn_lt i
  have e1 : (i : Int) % 256 = i := by omega
  go_enter Try.func46, Try.ntmps46
  go_wp2_with fail
  refine (rev_any i _ (by omega)).mono ?_
  rintro e w' ⟨rfl, rfl⟩
  go_wp2
  go_ret
  exact ⟨rfl, rfl⟩

def IsZ (cs : Array Value) : Prop := cs.size = 256 ∧ ∀ i, i < 256 → cs[i]? = some (.int .i64 (nv (zv i)))
theorem IsZ.cells {cs : Array Value} (h : IsZ cs) : cs.all (·.oneCell') = true := by
  rw [Array.all_eq_true]
  intro i hi
  have := h.2 i (by rw [← h.1]; exact hi)
  rw [Array.getElem?_eq_getElem hi] at this
  rw [Option.some.inj this]; rfl
theorem pow_size : (Try.prog.info? 22).map (·.size) = some 256 := by kernel_rfl
theorem pow_sized {cs : Array Value} (h : IsZ cs) : (Try.prog.info? 22).map (·.size) = some cs.size := by rw [h.1]; exact pow_size
theorem zero_pow : ∃ Z : Array Value, (∀ w, (zeroValue 22).run Try.prog w = .ok (.agg Z) w) ∧ Z.size = 256 ∧ ∀ i, i < 256 → Z[i]? = some (.int .i64 0) := by
  have h : (Try.prog.info? 22).map (fun i => i.zero) = some (some (.agg (Array.replicate 256 (.int .i64 0)))) := by kernel_rfl
  obtain ⟨i, hi, e⟩ := Option.map_eq_some_iff.1 h
  refine ⟨Array.replicate 256 (.int .i64 0), fun w => ?_, by simp, fun i hi => by simp [hi]⟩
  simp [zeroValue, typeInfo, hi, e]
def party (k : Nat) : Nat → Int := fun j => if tn j < k then nv (zv j) else 0
theorem party_succ {w : World} {b k : Nat} {t : TypeId} (hk : k < 256) (h : w.rowIs b t 256 (ints (party k))) : (w.setCell ⟨b, tn k, none⟩ (.int .i64 (nv (pw k)))).rowIs b t 256 (ints (party (k + 1))) :=
  row_is (row_set h _ _) fun j hj => by
    unfold party
    by_cases e : j = tn k
    · subst e; rw [if_pos rfl, tn_tn k hk, if_pos (by omega)]; unfold zv; rw [tn_tn k hk]
    · rw [if_neg e]
      have e' : tn j ≠ k := fun h => e (by rw [← h, tn_tn j hj])
      by_cases h : tn j < k
      · rw [if_pos h, if_pos (by omega)]
      · rw [if_neg h, if_neg (by omega)]
theorem near_root : Near 1753 1753 := ⟨by decide, by omega, by omega⟩

set_option maxHeartbeats 800000 in
set_option maxRecDepth 100000 in
theorem powers_any (w : World) :
    Calls Try.prog 38 #[] w fun e w' => ∃ cs, e = .returned (.agg cs) ∧ IsZ cs ∧ Below w.heap.size w w' := by
  obtain ⟨Z, hz, hZ1, hZ2⟩ := zero_pow
  have HZ1 := Lib.hid hZ1; have HZ2 := Lib.hid hZ2; clear hZ1 hZ2
  have one : (1 : Int) = nv (pw 0) := by decide
  go_enter Try.func38, Try.ntmps38
  go_wp2
  clear hz
  go_loopw [2, 4] (fun q i W => ∃ k : Nat, k ≤ 256 ∧ i = .int .i64 k ∧ q = .int .i64 (nv (pw k)) ∧ Hid (W.rowIs (w.heap.size + 1) 22 256 (ints (party k))) ∧ Hid (W.heap[w.heap.size]? = some (.cells Z 22 (0, 0))) ∧ Hid (Below w.heap.size w W)) (fun _ i _ => 256 - (intOf i).toNat)
  case atStart =>
    have e : (w.alloc (.cells Z 22)).heap.size = w.heap.size + 1 := by simp
    have r : ((w.alloc (.cells Z 22)).alloc (.cells Z 22)).rowIs (w.alloc (.cells Z 22)).heap.size 22 256 (ints (party 0)) :=
      ⟨Z, heap_alloc_last _ _, HZ1.out, fun i hi => by rw [HZ2.out i hi]; unfold ints party; rw [if_neg (by omega)]⟩
    rw [e] at r
    exact ⟨0, by omega, rfl, rfl, Lib.hid r, Lib.hid ((Below.heap_alloc _ _ _ (by omega)).trans (heap_alloc_last w _)), Lib.hid (((Below.refl _ _).alloc (Nat.le_refl _) _).alloc (by simp) _)⟩
  case round =>
    obtain ⟨k, hk, rfl, rfl, HR, HQ, HB⟩ := hrel
    clear one
    by_cases hlt : k < 256
    · have htn := tn_lt k
      have d := HR.out.frozen (tn k)
      have hc := HR.out.cell htn
      go_wp2_with fail
      refine (turned_any k _ hlt).mono ?_
      rintro e' w' ⟨rfl, rfl⟩
      go_wp2_with fail
      refine (product_near _ (near_nv (pw k)) near_root).mono ?_
      rintro e' w' ⟨rfl, rfl⟩
      rw [show pw k * 1753 = pw (k + 1) from rfl]
      go_wp2
      go_roundw
      case rel => exact ⟨k + 1, by omega, by go_num, rfl, Lib.hid (party_succ hlt HR.out), Lib.hid ((Below.heap_setCell wr _ _ _ (by show w.heap.size ≠ w.heap.size + 1; omega)).trans HQ.out), Lib.hid (HB.out.setCell (by show w.heap.size ≤ w.heap.size + 1; omega) _)⟩
      case measure => simp [intOf]; omega
    · obtain rfl : k = 256 := by omega
      obtain ⟨cs, hcs, hs, hc⟩ := HR.out
      have hP' : IsZ cs := ⟨hs, fun i hi => by rw [hc i hi]; unfold ints party; rw [if_pos (tn_lt i)]⟩
      have hi := pow_sized hP'
      have hzm : Z.size = cs.size := by rw [HZ1.out, hP'.1]
      have H1 := Lib.hid hcs; have H2 := Lib.hid hP'; have H3 := Lib.hid hi; have H4 := Lib.hid hzm; clear hcs hP' hi hzm hs hc
      go_wp2_with (first | (refine wpList_load_row rfl 22 (.tmp 1) rfl (w.heap.size + 1) rfl 22 cs (0, 0) _ H1.out Try.underlying22 rfl H3.out ?_) | (refine wpList_store_row rfl 22 (.tmp 0) (.tmp 14) rfl w.heap.size cs rfl rfl 22 Z HQ.out H3.out H4.out H2.out.cells ?_))
      refine bodyPost_ret (v := .agg cs) (results_cell_row (p := 0) (ty := 22) (by kernel_rfl) _ _ w.heap.size 22 cs (0, 0) _ rfl (setRow_heap _ _ _ _ _ _ HQ.out) Try.underlying22 rfl H3.out) rfl ⟨cs, rfl, H2.out, below_setRow HB.out (Nat.le_refl _) _⟩
end Go.Proofs.Ytaihlmedeebimaa.Lg
