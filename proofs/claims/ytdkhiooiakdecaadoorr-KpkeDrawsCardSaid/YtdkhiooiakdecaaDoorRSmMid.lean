/- Walks: the closures that each is handed. Walks: each, of each closure. Walks: Mod, Add, Sub. Walks: Add, Sub. Written by tools/mk_smadd.py. Walks: turned, powers. Walks: the iterators of the powers, level. Walks: level. Written by tools/mk_smlevel.py. Walks: NTT, Inverse. Written by tools/mk_smntt.py. Walks: Times. Written by tools/mk_smtimes.py. Two polynomials are compared: what is the same is told to be. Walks: head. Written by tools/mk_smhead.py. -/
import Derived.Test.YtdkhiooiakdecaaDoorRSmWalkA
import Derived.Deep.RegionWith
import Derived.Laws.StructEq
namespace Go.Proofs.YtdkhiooiakdecaaDoorR.Sm
open Go.RowKit
set_option linter.all false

set_option maxHeartbeats 400000 in
theorem mod1_any (b : Nat) (p : Nat → Int) (i : Nat) (w : World) (hi : i < 256) (h : w.rowIs b 26 256 (ints p)) :
    Calls Tryd.prog 53 #[.int .i64 i, .pointer (some ⟨b, 0, none⟩)] w fun e w' => e = .returned (.int .i64 (p i)) ∧ ∃ n, w' = w.drewN n := by
  have c := h.cell hi
  unfold ints at c
  clear h
  go_enter Tryd.func53, Tryd.ntmps53
  go_wp2
  go_ret
  exact ⟨rfl, 0, rfl⟩
end Go.Proofs.YtdkhiooiakdecaaDoorR.Sm

namespace Go.Proofs.YtdkhiooiakdecaaDoorR.Sm
open Go.RowKit
set_option linter.all false

theorem poly_size : (Tryd.prog.info? 26).map (·.size) = some 256 := by kernel_rfl
theorem poly_sized {cs : Array Value} {p : Nat → Int} (h : IsP cs p) : (Tryd.prog.info? 26).map (·.size) = some cs.size := by rw [h.1]; exact poly_size
theorem zero_poly : ∃ Z : Array Value, (∀ w, (zeroValue 26).run Tryd.prog w = .ok (.agg Z) w) ∧ IsP Z (fun _ => 0) := by
  have h : (Tryd.prog.info? 26).map (fun i => i.zero) = some (some (.agg (Array.replicate 256 (.int .i64 0)))) := by kernel_rfl
  obtain ⟨i, hi, e⟩ := Option.map_eq_some_iff.1 h
  refine ⟨Array.replicate 256 (.int .i64 0), fun w => ?_, by simp, fun i hi => by simp [hi]⟩
  simp [zeroValue, typeInfo, hi, e]

def partx (x : Nat → F) (k : Nat) : Nat → Int := fun i => if i < k then nv (x i) else 0
theorem partx_succ {w : World} {b k : Nat} {t : TypeId} {x : Nat → F} (h : w.rowIs b t 256 (ints (partx x k))) : (w.setCell ⟨b, k, none⟩ (.int .i64 (nv (x k)))).rowIs b t 256 (ints (partx x (k + 1))) :=
  row_is (row_set h k _) fun i _ => by
    unfold partx
    by_cases e : i = k
    · subst e; rw [if_pos rfl, if_pos (by omega)]
    · rw [if_neg e]
      by_cases h : i < k
      · rw [if_pos h, if_pos (by omega)]
      · rw [if_neg h, if_neg (by omega)]
theorem partx_zero {Z : Array Value} (h : IsP Z (fun _ => 0)) (x : Nat → F) : IsP Z (partx x 0) := h.congr fun i _ => by unfold partx; rw [if_neg (by omega)]
theorem partx_all {cs : Array Value} {x : Nat → F} (h : IsP cs (partx x 256)) : IsP cs (up x) := h.congr fun i hi => by unfold partx up; rw [if_pos hi]

set_option maxHeartbeats 800000 in
set_option maxRecDepth 100000 in
theorem each_mod1 (A : Addr) (v : Nat → Int) (x : Nat → F) (w : World) (hv : ∀ i, i < 256 → -9223372036854775808 ≤ v i ∧ v i ≤ 9223372036854775807 ∧ red (v i) = x i)
    (hcl : ∀ (W : World) (i : Nat), i < 256 → Below w.heap.size w W → Calls Tryd.prog 53 #[.int .i64 i, .pointer (some A)] W fun e W' => e = .returned (.int .i64 (v i)) ∧ ∃ n, W' = W.drewN n) :
    Calls Tryd.prog 52 #[.func (.func 53) #[] #[.pointer (some A)]] w fun e w' => ∃ cs, e = .returned (.agg cs) ∧ IsP cs (up x) ∧ Below w.heap.size w w' := by
  have HV := Lib.hid hv; have HC := Lib.hid hcl; clear hv hcl
  obtain ⟨Z, hz, hZ⟩ := zero_poly
  have HZ := Lib.hid hZ; clear hZ
  have HS0 := Lib.hid hz
  go_enter Tryd.func52, Tryd.ntmps52
  go_wp2
  clear hz
  go_loopw [5] (fun i W => ∃ k : Nat, k ≤ 256 ∧ i = .int .i64 k ∧ Hid (W.rowIs (w.heap.size + 1) 26 256 (ints (partx x k))) ∧ Hid (W.heap[w.heap.size]? = some (.cells Z 26 (0, 0))) ∧ Hid (Below w.heap.size w W)) (fun i _ => 256 - (intOf i).toNat)
  case atStart =>
    have e : (w.alloc (.cells Z 26)).heap.size = w.heap.size + 1 := by simp
    have r := row_of (heap_alloc_last (w.alloc (.cells Z 26)) (.cells Z 26)) (partx_zero HZ.out x)
    rw [e] at r
    exact ⟨0, by omega, rfl, Lib.hid r, Lib.hid ((Below.heap_alloc _ _ _ (by omega)).trans (heap_alloc_last w _)), Lib.hid (((Below.refl _ _).alloc (Nat.le_refl _) _).alloc (by simp) _)⟩
  case round =>
    obtain ⟨k, hk, rfl, HR, HQ, HB⟩ := hrel
    by_cases hlt : k < 256
    · obtain ⟨v1, v2, v3⟩ := HV.out k hlt
      have V3 := Lib.hid v3; clear v3
      go_wp2_with fail
      refine (HC.out _ k hlt HB.out).mono ?_
      rintro e' w' ⟨rfl, n, rfl⟩
      have d := (rowIs_drewN HR.out n).frozen k
      have hc := (rowIs_drewN HR.out n).cell hlt
      go_wp2_with fail
      refine (number_is _ (x k) _ V3.out v1 v2).mono ?_
      rintro e' w' ⟨rfl, rfl⟩
      go_wp2
      go_roundw
      case rel => exact ⟨k + 1, by omega, by go_num, Lib.hid (partx_succ (rowIs_drewN HR.out n)), Lib.hid ((Below.heap_setCell (wr.drewN n) _ _ _ (by show w.heap.size ≠ w.heap.size + 1; omega)).trans HQ.out), Lib.hid ((below_drewN HB.out n).setCell (by show w.heap.size ≤ w.heap.size + 1; omega) _)⟩
      case measure => simp [intOf]; omega
    · obtain rfl : k = 256 := by omega
      obtain ⟨cs, hcs, hP⟩ := of_row HR.out
      have hP' := partx_all hP
      clear hP
      have hi := poly_sized hP'
      have hzm : Z.size = cs.size := by rw [HZ.out.1, hP'.1]
      have H1 := Lib.hid hcs; have H2 := Lib.hid hP'; have H3 := Lib.hid hi; have H4 := Lib.hid hzm; clear hcs hP' hi hzm
      go_wp2_with (first | (refine wpList_load_row rfl 26 (.tmp 3) rfl (w.heap.size + 1) rfl 26 cs (0, 0) _ H1.out Tryd.underlying26 rfl H3.out ?_) | (refine wpList_store_row rfl 26 (.tmp 2) (.tmp 15) rfl w.heap.size cs rfl rfl 26 Z HQ.out H3.out H4.out H2.out.cells ?_))
      refine bodyPost_ret (v := .agg cs) (results_cell_row (p := 2) (ty := 26) (by kernel_rfl) _ _ w.heap.size 26 cs (0, 0) _ rfl (setRow_heap _ _ _ _ _ _ HQ.out) Tryd.underlying26 rfl H3.out) rfl ⟨cs, rfl, H2.out, below_setRow HB.out (Nat.le_refl _) _⟩
end Go.Proofs.YtdkhiooiakdecaaDoorR.Sm

namespace Go.Proofs.YtdkhiooiakdecaaDoorR.Sm
open Go.RowKit
set_option linter.all false

def Fits (p : Nat → Int) : Prop := ∀ i, i < 256 → -9223372036854775808 ≤ p i ∧ p i ≤ 9223372036854775807
theorem fits_up (f : Nat → F) : Fits (up f) := fun i _ => by unfold up; have := nv_lo (f i); have := nv_hi (f i); omega
def redp (p : Nat → Int) : Nat → F := fun i => red (p i)
theorem redp_up (f : Nat → F) : redp (up f) = f := by funext i; exact red_nv _

set_option maxHeartbeats 800000 in
set_option maxRecDepth 100000 in
theorem mod_any (cs : Array Value) (p : Nat → Int) (w : World) (hP : IsP cs p) (hF : Fits p) :
    Calls Tryd.prog 41 #[.agg cs] w fun e w' => ∃ ds, e = .returned (.agg ds) ∧ IsP ds (up (redp p)) ∧ Below w.heap.size w w' := by
  have hmf : ∀ (fn : Fn) (first cap : Array Value) (w : World), (Instr.makeFunc fn first cap).run Tryd.prog w = .ok (.func fn first cap) w := fun _ _ _ _ => rfl
  have HP := Lib.hid hP; have HF := Lib.hid hF; clear hP hF
  obtain ⟨Z, hz, hZ⟩ := zero_poly
  have HZ := Lib.hid hZ; clear hZ
  have HR := Lib.hid (row_of (heap_alloc_last w (.cells cs 26)) HP.out)
  have es : (w.alloc (.cells cs 26)).heap.size = w.heap.size + 1 := by simp
  have ES := Lib.hid es; clear es
  go_enter Tryd.func41, Tryd.ntmps41
  go_wp2_with fail
  refine (each_mod1 ⟨w.heap.size, 0, none⟩ p (redp p) _ (fun i hi => ⟨(HF.out i hi).1, (HF.out i hi).2, rfl⟩) (fun W i hi hB => mod1_any w.heap.size p i W hi (below_at hB (HR.out.alloc _) (by simp; omega)))).mono ?_
  rintro e w1 ⟨ds, rfl, hD, hB⟩
  have hq : w1.heap[w.heap.size + 1]? = some (.cells Z 26 (0, 0)) := by
    have h2 := heap_alloc_last (w.alloc (.cells cs 26)) (.cells Z 26)
    rw [ES.out] at h2
    exact (hB.block _ (by simp)).trans h2
  have hb : Below w.heap.size w w1 := (((Below.refl _ _).alloc (Nat.le_refl _) _).alloc (by simp) _).trans (hB.mono (by simp; omega))
  have hi := poly_sized hD
  have hzm : Z.size = ds.size := by rw [HZ.out.1, hD.1]
  have HD := Lib.hid hD; have HB := Lib.hid hb; have HQ := Lib.hid hq; have HI := Lib.hid hi; have HM := Lib.hid hzm; clear hD hB hb hq hi hzm
  go_wp2_with (refine wpList_store_row rfl 26 (.tmp 2) (.tmp 4) rfl (w.heap.size + 1) ds rfl rfl 26 Z HQ.out HI.out HM.out HD.out.cells ?_)
  refine bodyPost_ret (v := .agg ds) (results_cell_row (p := 2) (ty := 26) (by kernel_rfl) _ _ (w.heap.size + 1) 26 ds (0, 0) _ rfl (setRow_heap _ _ _ _ _ _ HQ.out) Tryd.underlying26 rfl HI.out) rfl ⟨ds, rfl, HD.out, below_setRow HB.out (by omega) _⟩
end Go.Proofs.YtdkhiooiakdecaaDoorR.Sm

namespace Go.Proofs.YtdkhiooiakdecaaDoorR.Sm
open Go.RowKit
set_option linter.all false

theorem step_of {P : Program} {ops : Array Oper} {o : Oper} {a : Act} {w : World} {K : Act → World → Prop} {Q : Exit → Act → World → Prop} {E : Prop} {ts : Array Value} (hw : Region.wanted o (yielded ops ts) = true)
    (h : Oper.wp P o a w K Q) : if Region.wanted o (yielded ops ts) = true then Oper.wp P o a w K Q else E := by rw [if_pos hw]; exact h
theorem below_of_drew {w w' : World} (h : Below w.drew.heap.size w.drew w') : Below w.heap.size w w' := ⟨h.os, h.tape, h.output, h.size, h.block⟩
/-- a region that is shown not to panic; the post laid open, so that its limb at a panic is seen at once -/
theorem region_calm {P : Program} {id : Nat} {ops : Array Oper} {b : Bool} {Q : Exit → Act → World → Prop} {a : Act} {w : World}
    (h : (Code.region id ops b).wp P (fun e a w => match e with | .panic _ => False | e => Q e a w) a w) : (Code.region id ops b).wp P Q a w :=
  Code.wp_mono (fun e a w h => by cases e <;> first | exact h | exact (h : False).elim) h

end Go.Proofs.YtdkhiooiakdecaaDoorR.Sm

namespace Go.Proofs.YtdkhiooiakdecaaDoorR.Sm
open Go.RowKit
set_option linter.all false

/-- a byte of a constant string, at a variable index -/
theorem wpList_index_str {P : Program} {ops : Array Oper} {rest : List Oper} {o : Oper} {a : Act} {w : World} {Q : Exit → Act → World → Prop} (hgd : o.guard = none) (t : TypeId) (S : ByteArray) (x : Operand) (ho : o.op = .index t (.const (.string S)) x)
    (k : IntKind) (i : Nat) (hx : a.eval x = .int k (i : Int)) (hu : P.underlying t = some .string) (n : Nat) (v : Nat → Nat) (hs : S.size = n) (hi : i < n) (hv : ∀ i, i < n → (S.data.toList.getD i 0).toNat = v i)
    (h : wpList P ops Q rest (a.put o.dst (.int .u8 (v i : Nat))) w) : wpList P ops Q (o :: rest) a w := by
  refine wpList_plain hgd fun K hK => ?_
  have hsz : i < S.size := by omega
  have hr : (Instr.index t (.string S) (.int k (i : Int))).run P w = .ok (.int .u8 (v i : Nat)) w := by
    rw [run_index_string w t S k i hu, dif_pos ⟨by omega, by omega⟩]
    have h1 := hv i hi
    have h2 : S[i] = S.data.toList.getD i 0 := by
      have h3 : i < S.data.toList.length := by simpa using hsz
      rw [List.getD_eq_getElem?_getD, List.getElem?_eq_getElem h3]; rfl
    have h4 : (((i : Int).toNat) : Nat) = i := by omega
    simp only [h4]
    rw [h2, h1]
  have hc : a.eval (.const (.string S)) = .string S := rfl
  unfold Oper.wp execOp
  simp only [ho, hx, hc, hr, Sem.run_bind, Sem.run_pure, Result.andThen_ok]
  exact hK _ _ h

def rev8 (i : Nat) : Nat := 2 * tn i + i / 128 % 2
theorem rev8_lt (i : Nat) : rev8 i < 256 := by unfold rev8; have := tn_lt i; omega
def IsZ (cs : Array Value) : Prop := cs.size = 128 ∧ ∀ i, i < 128 → cs[i]? = some (.int .i64 (nv (zv i)))
theorem IsZ.cells {cs : Array Value} (h : IsZ cs) : cs.all (·.oneCell') = true := by
  rw [Array.all_eq_true]
  intro i hi
  have := h.2 i (by rw [← h.1]; exact hi)
  rw [Array.getElem?_eq_getElem hi] at this
  rw [Option.some.inj this]; rfl
def party (k : Nat) : Nat → Int := fun j => if tn j < k then nv (zv j) else 0
theorem party_succ {w : World} {b k : Nat} {t : TypeId} (hk : k < 128) (h : w.rowIs b t 128 (ints (party k))) : (w.setCell ⟨b, tn k, none⟩ (.int .i64 (nv (pw k)))).rowIs b t 128 (ints (party (k + 1))) :=
  row_is (row_set h _ _) fun j hj => by
    unfold party
    by_cases e : j = tn k
    · subst e; rw [if_pos rfl, tn_tn k hk, if_pos (by omega)]; unfold zv; rw [tn_tn k hk]
    · rw [if_neg e]
      have e' : tn j ≠ k := fun h => e (by rw [← h, tn_tn j hj])
      by_cases h : tn j < k
      · rw [if_pos h, if_pos (by omega)]
      · rw [if_neg h, if_neg (by omega)]
theorem red_pw (k : Nat) : red (nv (pw k) * 17) = pw (k + 1) := by
  rw [red_mul, red_nv]; rfl

end Go.Proofs.YtdkhiooiakdecaaDoorR.Sm

namespace Go.Proofs.YtdkhiooiakdecaaDoorR.Sm
open Go.RowKit
set_option linter.all false

def zvi : Nat → Int := fun i => nv (zv i)
def one1 (k : Nat) : Nat → Value := fun _ => .int .i64 (k : Int)
theorem one1_set {w : World} {b k k' : Nat} {t : TypeId} (h : w.rowIs b t 1 (one1 k)) : (w.setCell ⟨b, 0, none⟩ (.int .i64 (k' : Int))).rowIs b t 1 (one1 k') :=
  (h.set 0 _).congr fun i hi => by obtain rfl : i = 0 := by omega
                                   rfl
end Go.Proofs.YtdkhiooiakdecaaDoorR.Sm

namespace Go.Proofs.YtdkhiooiakdecaaDoorR.Sm
open Go.RowKit
set_option linter.all false

def partl (L f : Nat → F) (n s t : Nat) : Nat → Int := fun i => if i < s ∨ (s ≤ i ∧ i < s + t) ∨ (s + n ≤ i ∧ i < s + n + t) then nv (L i) else nv (f i)
theorem partl_low (L f : Nat → F) (n s t : Nat) (h : t < n) : partl L f n s t (s + t) = nv (f (s + t)) ∧ partl L f n s t (s + t + n) = nv (f (s + t + n)) := by
  unfold partl; exact ⟨by rw [if_neg (by omega)], by rw [if_neg (by omega)]⟩
theorem partl_succ {w : World} {g : Nat} {ty : TypeId} {L f : Nat → F} {n s t : Nat} (h : t < n) (hR : w.rowIs g ty 256 (ints (partl L f n s t))) {x y : F} (hx : L (s + t) = x) (hy : L (s + t + n) = y) :
    ((w.setCell ⟨g, s + t, none⟩ (.int .i64 (nv x))).setCell ⟨g, s + t + n, none⟩ (.int .i64 (nv y))).rowIs g ty 256 (ints (partl L f n s (t + 1))) :=
  row_is (row_set (row_set hR _ _) _ _) fun i _ => by
    unfold partl
    by_cases e1 : i = s + t + n
    · subst e1; rw [if_pos rfl, if_pos (by omega), hy]
    · rw [if_neg e1]
      by_cases e2 : i = s + t
      · subst e2; rw [if_pos rfl, if_pos (by omega), hx]
      · rw [if_neg e2]
        by_cases e3 : i < s ∨ (s ≤ i ∧ i < s + t) ∨ (s + n ≤ i ∧ i < s + n + t)
        · rw [if_pos e3, if_pos (by omega)]
        · rw [if_neg e3, if_neg (by omega)]
theorem partl_next (L f : Nat → F) (n s : Nat) : partl L f n s n = partl L f n (s + 2 * n) 0 := by
  funext i
  unfold partl
  by_cases e : i < s + 2 * n
  · rw [if_pos (by omega), if_pos (by omega)]
  · rw [if_neg (by omega), if_neg (by omega)]
theorem partl_zero (L f : Nat → F) (n : Nat) : partl L f n 0 0 = up f := by
  funext i; unfold partl up; rw [if_neg (by omega)]
theorem partl_all {w : World} {g : Nat} {ty : TypeId} {L f : Nat → F} {n : Nat} (hR : w.rowIs g ty 256 (ints (partl L f n 256 0))) : w.rowIs g ty 256 (ints (up L)) :=
  row_is hR fun i hi => by unfold partl up; rw [if_pos (by omega)]
theorem rowIs_drew' {w : World} {b : Nat} {t : TypeId} {n : Nat} {f : Nat → Value} (h : w.rowIs b t n f) : w.drew.rowIs b t n f := h
theorem only_drew {a w : World} {row : Option Nat} (h : a.grownBy w row) : a.grownBy w.drew row := ⟨h.os, h.tape, h.output, h.size, h.block⟩
theorem only_alloc {a w : World} {row : Option Nat} (h : a.grownBy w row) (x : Obj) : a.grownBy (w.alloc x) row :=
  ⟨h.os, h.tape, h.output, Nat.le_trans h.size (by simp), fun i hi hne => (Below.heap_alloc w x i (Nat.lt_of_lt_of_le hi h.size)).trans (h.block i hi hne)⟩
theorem only_set {a w : World} {g : Nat} (h : a.grownBy w (some g)) {p : Addr} (hp : p.block = g ∨ a.heap.size ≤ p.block) (u : Value) : a.grownBy (w.setCell p u) (some g) :=
  ⟨h.os, h.tape, h.output, by simpa [World.setCell] using h.size, fun i hi hne => (Below.heap_setCell w p u i (by
    rintro rfl
    rcases hp with hp | hp
    · exact hne (by rw [hp])
    · omega)).trans (h.block i hi hne)⟩
theorem only_setRow {a w : World} {g g' : Nat} (h : a.grownBy w (some g)) (hp : a.heap.size ≤ g') (cs : Array Value) : a.grownBy (w.setRow g' cs) (some g) :=
  ⟨h.os, h.tape, h.output, by simpa using h.size, fun i hi hne => (setRow_other w g' i cs (by omega)).trans (h.block i hi hne)⟩
theorem mul_room {b m n : Nat} (h : b < m) (e : 2 * n * m = 256) : b * (2 * n) + 2 * n ≤ 256 := by
  have h1 : (b + 1) * (2 * n) ≤ m * (2 * n) := Nat.mul_le_mul_right _ h
  rw [Nat.add_mul, Nat.one_mul, Nat.mul_comm m, e] at h1
  exact h1
theorem mul_end {m n : Nat} (e : 2 * n * m = 256) : m * (2 * n) = 256 := by rw [Nat.mul_comm]; exact e

end Go.Proofs.YtdkhiooiakdecaaDoorR.Sm

namespace Go.Proofs.YtdkhiooiakdecaaDoorR.Sm
open Go.RowKit
set_option linter.all false

theorem nf_bound : ∀ l, l < 8 → 1 ≤ nf l ∧ nf l ≤ 128 := by decide
theorem nf_go : ∀ l, l < 7 → 2 ≤ nf l ∧ nf (l + 1) = nf l / 2 := by decide
theorem pow_bound : ∀ l, l < 7 → 2 ^ l - 1 + 2 ^ l ≤ 127 ∧ 1 ≤ 2 ^ l ∧ 2 ^ l - 1 + 2 ^ l = 2 ^ (l + 1) - 1 := by decide
theorem zs_fwd (l : Nat) (hl : l < 7) (b : Nat) (hb : b < 2 ^ l) : zv (2 ^ l - 1 + b + 1) = zf l b := by
  unfold zf
  rw [Nat.mod_eq_of_lt hb, show 2 ^ l - 1 + b + 1 = 2 ^ l + b by have := (pow_bound l hl).2.1; omega]
theorem red3303 : red 3303 = 3303 := by decide
theorem zero_int : ∀ w, (zeroValue 3).run Tryd.prog w = .ok (.int .i64 0) w := by
  have h : (Tryd.prog.info? 3).map (fun i => i.zero) = some (some (.int .i64 0)) := by kernel_rfl
  obtain ⟨i, hi, e⟩ := Option.map_eq_some_iff.1 h
  intro w
  simp [zeroValue, typeInfo, hi, e]
theorem one1_of {w : World} {b k : Nat} {t : TypeId} (h : w.heap[b]? = some (.cells #[.int .i64 (k : Int)] t (0, 0))) : w.rowIs b t 1 (one1 k) := by
  refine ⟨_, h, rfl, fun i hi => ?_⟩
  obtain rfl : i = 0 := by omega
  rfl
theorem back_bound : ∀ l, l < 7 → 2 ^ (6 - l) + 2 ^ (6 - l) = 2 ^ (7 - l) ∧ 2 ^ (7 - l) ≤ 128 ∧ 2 ^ (l + 1) ≤ 128 ∧ 2 ^ (l + 1 + 1) = 2 ^ (l + 1) * 2 ∧ 1 ≤ 2 ^ (l + 1) ∧ 7 - (l + 1) = 6 - l := by decide
theorem zs_back (l : Nat) (hl : l < 7) (b : Nat) (hb : b < 2 ^ (6 - l)) : zv (2 ^ (6 - l) + 2 ^ (6 - l) - 1 - b) = zb l b := by
  unfold zb
  rw [Nat.mod_eq_of_lt hb, (back_bound l hl).1]
theorem red_unscale (x : F) : red (nv x * 3303) = 3303 * x := by rw [red_mul, red_nv, red3303]; grind
theorem unscale_bd (x : F) : -9223372036854775808 ≤ nv x * 3303 ∧ nv x * 3303 ≤ 9223372036854775807 := by have := nv_lo x; have := nv_hi x; omega
end Go.Proofs.YtdkhiooiakdecaaDoorR.Sm

namespace Go.Proofs.YtdkhiooiakdecaaDoorR.Sm
open Go.RowKit
set_option linter.all false

theorem partx_put {w : World} {b k : Nat} {t : TypeId} {x : Nat → F} {v : F} (hv : x k = v) (h : w.rowIs b t 256 (ints (partx x k))) : (w.setCell ⟨b, k, none⟩ (.int .i64 (nv v))).rowIs b t 256 (ints (partx x (k + 1))) := by
  rw [← hv]; exact partx_succ h
theorem number_same (n : Int) (x : F) (w : World) (h : red n = x) (h1 : -9223372036854775808 ≤ n) (h2 : n ≤ 9223372036854775807) :
    Calls Tryd.prog 59 #[.int .i64 n] w fun e w' => e = .returned (.int .i64 (nv x)) ∧ w' = w :=
  (number_is n x w h h1 h2).mono fun _ _ ⟨h, h'⟩ => ⟨h, h'.symm⟩
theorem red_gam (k : Nat) : red (nv (zv k * zv k) * 17) = gam k := by rw [red_mul, red_nv]; rfl
theorem red_even (a b c d g : F) : red (nv a * nv b + nv g * nv (c * d)) = a * b + g * (c * d) := by rw [red_add, red_mul_nv, red_mul_nv]
theorem red_odd (a b c d : F) : red (nv a * nv b + nv c * nv d) = a * b + c * d := by rw [red_add, red_mul_nv, red_mul_nv]

end Go.Proofs.YtdkhiooiakdecaaDoorR.Sm

namespace Go.Proofs.YtdkhiooiakdecaaDoorR.Sm
open Go.RowKit
set_option linter.all false

theorem eq_int (d : Nat) (a : Int) (w : World) : (Op.equalIn (d + 1) 3 (.int .i64 a) (.int .i64 a)).run Tryd.prog w = .ok true w := by
  simp [Op.equalIn, run_underlying Tryd.underlying3]
theorem int_size : ∃ i : TypeInfo, Tryd.prog.info? 3 = some i ∧ i.size = 1 := by
  have h : (Tryd.prog.info? 3).map (·.size) = some 1 := by kernel_rfl
  obtain ⟨i, hi, e⟩ := Option.map_eq_some_iff.1 h
  exact ⟨i, hi, e⟩
theorem int_agg (w : World) : (isAgg 3).run Tryd.prog w = .ok false w := by
  unfold isAgg
  rw [Sem.run_bind, run_underlying Tryd.underlying3 w]
  simp
theorem part_at {cs : Array Value} {p : Nat → Int} (h : IsP cs p) (i : Nat) (hi : i < 256) (w : World) : (part 3 cs i).run Tryd.prog w = .ok (.int .i64 (p i)) w := by
  obtain ⟨ti, h1, h2⟩ := int_size
  simp [part, int_agg, h.2 i hi]
theorem eq_poly (d : Nat) {cs : Array Value} {p : Nat → Int} (h : IsP cs p) (w : World) : (Op.equalIn (d + 2) 26 (.agg cs) (.agg cs)).run Tryd.prog w = .ok true w := by
  obtain ⟨ti, h1, h2⟩ := int_size
  rw [Op.equalIn]
  simp only [Sem.run_bind, run_underlying Tryd.underlying26, Result.andThen_ok, sizeOf, typeInfo, h1, Sem.run_pure, run_program]
  rw [Std.Legacy.Range.forIn_eq_forIn_range']
  have hl : ∀ (l : List Nat), (∀ i ∈ l, i < 256) → (Sem.run Tryd.prog (forIn l (none, ()) fun i (__s : Option Bool × Unit) => do
            let __do_lift ← part 3 cs (i * ti.size)
            let __do_lift_1 ← part 3 cs (i * ti.size)
            let __do_lift ← Op.equalIn (d + 1) 3 __do_lift __do_lift_1
            if (!__do_lift) = true then pure (ForInStep.done (some false, ())) else pure (ForInStep.yield (none, ()))) w) = .ok (none, ()) w := by
    intro l
    induction l with
    | nil => intro _; simp
    | cons i l ih =>
      intro hm
      rw [List.forIn_cons]
      simp only [Sem.run_bind, h2, Nat.mul_one, part_at h i (hm i (by simp)), Result.andThen_ok, eq_int, Bool.not_true, Bool.false_eq_true, if_false, Sem.run_pure]
      have := ih fun j hj => hm j (by simp [hj])
      simp only [h2, Nat.mul_one] at this
      exact this
  have hm : ∀ i ∈ List.range' [:256].start [:256].size [:256].step, i < 256 := by
    intro i hi
    rw [show [:256].start = 0 from rfl, show [:256].step = 1 from rfl, show [:256].size = 256 by decide] at hi
    obtain ⟨k, h1, h2⟩ := List.mem_range'.1 hi
    omega
  rw [hl _ hm]
  simp
theorem noguard : Tryd.prog.eqGuardType Tryd.prog.depth 26 = false := by kernel_rfl
theorem guard_poly (op : BinOp) (x y : Operand) (cs ds : Array Value) (w : World) : (eqGuard op 26 x y (.agg cs) (.agg ds)).run Tryd.prog w = .ok () w := by
  unfold eqGuard
  split
  all_goals simp [noguard]
theorem run_eq {cs : Array Value} {p : Nat → Int} (h : IsP cs p) (w : World) : (binOp .eql 26 (.agg cs) (.agg cs)).run Tryd.prog w = .ok (.bool true) w := by
  unfold binOp
  simp only [Sem.run_bind, Sem.run_pure]
  rw [show Op.equal 26 (.agg cs) (.agg cs) = Op.equalIn (9998 + 2) 26 (.agg cs) (.agg cs) from rfl, eq_poly 9998 h]
  simp
theorem run_neq {cs : Array Value} {p : Nat → Int} (h : IsP cs p) (w : World) : (binOp .neq 26 (.agg cs) (.agg cs)).run Tryd.prog w = .ok (.bool false) w := by
  unfold binOp
  simp only [Sem.run_bind, Sem.run_pure]
  rw [show Op.equal 26 (.agg cs) (.agg cs) = Op.equalIn (9998 + 2) 26 (.agg cs) (.agg cs) from rfl, eq_poly 9998 h]
  simp
end Go.Proofs.YtdkhiooiakdecaaDoorR.Sm

namespace Go.Proofs.YtdkhiooiakdecaaDoorR.Sm
open Go.RowKit
set_option linter.all false

/-- blocks in which polynomials lie -/
def Sx (l : List (Nat × Array Value)) (w : World) : Prop := ∀ x ∈ l, w.heap[x.1]? = some (.cells x.2 26 (0, 0))
theorem sx_below {l : List (Nat × Array Value)} {w w' : World} (h : Sx l w) (hB : Below w.heap.size w w') : Sx l w' := fun x hx => by
  have := h x hx
  exact (hB.block x.1 (Array.getElem?_eq_some_iff.1 this).1).trans this
theorem sx_drew {l : List (Nat × Array Value)} {w : World} (h : Sx l w) : Sx l w.drew := h
theorem below_of_drew' {w w' : World} (h : Below w.heap.size w w') : Below w.heap.size w w' := h
theorem exec_load {o : Oper} {ev : Operand → Value} {w : World} (x : Operand) (ho : o.op = .load 26 x) (g : Nat) (cs : Array Value) (hx : ev x = .pointer (some ⟨g, 0, none⟩)) (hg : w.heap[g]? = some (.cells cs 26 (0, 0)))
    (hi : (Tryd.prog.info? 26).map (·.size) = some cs.size) : (execOp ev o).run Tryd.prog w = .ok (.value (.agg cs)) w := by
  unfold execOp
  simp only [ho, hx, Instr.loadAt, Instr.sureAddr, Sem.run_bind, Sem.run_pure, Result.andThen_ok, run_loadVar_row w g 26 26 cs (0, 0) _ hg Tryd.underlying26 rfl hi]
theorem exec_eq {o : Oper} {ev : Operand → Value} {w : World} (x y : Operand) (t : TypeId) (ho : o.op = .binOp .eql 26 x y t) (cs : Array Value) {p : Nat → Int} (h : IsP cs p) (hx : ev x = .agg cs) (hy : ev y = .agg cs) :
    (execOp ev o).run Tryd.prog w = .ok (.value (.bool true)) w := by
  unfold execOp
  simp only [ho, hx, hy, Sem.run_bind, Sem.run_pure, Result.andThen_ok, guard_poly, run_eq h]
theorem exec_neq {o : Oper} {ev : Operand → Value} {w : World} (x y : Operand) (t : TypeId) (ho : o.op = .binOp .neq 26 x y t) (cs : Array Value) {p : Nat → Int} (h : IsP cs p) (hx : ev x = .agg cs) (hy : ev y = .agg cs) :
    (execOp ev o).run Tryd.prog w = .ok (.value (.bool false)) w := by
  unfold execOp
  simp only [ho, hx, hy, Sem.run_bind, Sem.run_pure, Result.andThen_ok, guard_poly, run_neq h]
theorem sx_cell {l : List (Nat × Array Value)} {w : World} (h : Sx l w) (x : Nat × Array Value) (hx : x ∈ l) (i : Nat) {v : Value} (hv : x.2[i]? = some v) : w.cell? ⟨x.1, i, none⟩ = some v := by
  rw [cell_of_row w x.1 i _ _ _ (h x hx), hv]
theorem isp_set {cs : Array Value} {p : Nat → Int} (h : IsP cs p) (i : Nat) (v : Int) : IsP (cs.setIfInBounds i (.int .i64 v)) (fun j => if j = i then v else p j) := by
  refine ⟨by simp [h.1], fun j hj => ?_⟩
  rw [Array.getElem?_setIfInBounds]
  by_cases e : i = j
  · subst e
    rw [if_pos rfl, if_pos (by rw [h.1]; exact hj)]
    show _ = some (Value.int .i64 (if i = i then v else p i))
    rw [if_pos rfl]
  · rw [if_neg e, h.2 j hj]
    show _ = some (Value.int .i64 (if j = i then v else p j))
    rw [if_neg (fun x => e x.symm)]
def p0 : Nat → Int := fun i => if i = 0 then -1 else 0
theorem p0_fits : Fits p0 := fun i _ => by unfold p0; split <;> omega
theorem f0_at : nv (ntt (redp p0) 0) = 3328 ∧ nv (ntt (redp p0) 1) = 0 ∧ nv (ntt (redp p0) 254) = 3328 ∧ nv (redp p0 0) = 3328 := by decide +kernel

end Go.Proofs.YtdkhiooiakdecaaDoorR.Sm
