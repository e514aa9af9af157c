/- Walks: polynomials filled number by number, of groups of bits: decoded, centred. -/
import Derived.Test.YtdkhiooiakdecaaDoorRKpWalkD
namespace Go.Proofs.YtdkhiooiakdecaaDoorR.Kp
set_option linter.all false
open Go.RowKit Iter Sm
attribute [local go_sem] Oper.semAt_some

def fillp (v : Nat → Int) (k : Nat) : Nat → Int := fun i => if i < k then v i else 0
theorem fillp_succ {w : World} {b k : Nat} {t : TypeId} {v : Nat → Int} (h : w.rowIs b t 256 (ints (fillp v k))) : (w.setCell ⟨b, k, none⟩ (.int .i64 (v k))).rowIs b t 256 (ints (fillp v (k + 1))) :=
  row_is (row_set h k _) fun i _ => by
    unfold fillp
    by_cases e : i = k
    · subst e; rw [if_pos rfl, if_pos (by omega)]
    · rw [if_neg e]
      by_cases h : i < k
      · rw [if_pos h, if_pos (by omega)]
      · rw [if_neg h, if_neg (by omega)]
theorem fillp_zero {Z : Array Value} (h : IsP Z (fun _ => 0)) (v : Nat → Int) : IsP Z (fillp v 0) := h.congr fun i _ => by unfold fillp; rw [if_neg (by omega)]
theorem fillp_all {cs : Array Value} {v : Nat → Int} (h : IsP cs (fillp v 256)) : IsP cs v := h.congr fun i hi => by unfold fillp; rw [if_pos hi]
/-- between two rounds: the polynomial in block b, the number of its numbers in block a, the result's block r as it was laid -/
structure FillI (r b a : Nat) (Z : Array Value) (v : Nat → Int) (w : World) (k : Nat) (W : World) : Prop where
  row : W.rowIs b 26 256 (ints (fillp v k))
  num : W.rowIs a 3 1 (fun _ => .int .i64 k)
  res : W.heap[r]? = some (.cells Z 26 (0, 0))
  below : Below w.heap.size w W
theorem FillI.kept {r b a N : Nat} {Z : Array Value} {v : Nat → Int} {w : World} {k : Nat} {A B : World} (h : FillI r b a Z v w k A) (hk : Kept (fun c => N ≤ c) A B) (hr : r < N) (hb : b < N) (ha : a < N) (hw : w.heap.size ≤ N) : FillI r b a Z v w k B :=
  ⟨h.row.of_block (hk.block b h.row.lt (by omega)), h.num.of_block (hk.block a h.num.lt (by omega)), (hk.block r (Array.getElem?_eq_some_iff.1 h.res).1 (by omega)).trans h.res, hk.below h.below (fun i e => by omega) h.below.size⟩

theorem FillI.step {r b a : Nat} {Z : Array Value} {v : Nat → Int} {w : World} {k : Nat} {W : World} (h : FillI r b a Z v w k W) (h1 : r ≠ b) (h2 : r ≠ a) (h3 : b ≠ a) (h4 : w.heap.size ≤ b) (h5 : w.heap.size ≤ a) {x y : Int} (hx : x = v k) (hy : y = ((k + 1 : Nat) : Int)) :
    FillI r b a Z v w (k + 1) ((W.setCell ⟨b, k, none⟩ (.int .i64 x)).setCell ⟨a, 0, none⟩ (.int .i64 y)) ∧ Kept (fun c => c = b ∨ c = a) W ((W.setCell ⟨b, k, none⟩ (.int .i64 x)).setCell ⟨a, 0, none⟩ (.int .i64 y)) := by
  subst hx hy
  refine ⟨⟨(fillp_succ h.row).setOther (a := ⟨a, 0, none⟩) h3 _, ?_, (Below.heap_setCell _ ⟨a, 0, none⟩ _ _ h2).trans ((Below.heap_setCell _ ⟨b, k, none⟩ _ _ h1).trans h.res), (h.below.setCell (p := ⟨b, k, none⟩) h4 _).setCell (p := ⟨a, 0, none⟩) h5 _⟩,
    (Kept.set W ⟨b, k, none⟩ _ (.inl rfl)).trans (Kept.set _ ⟨a, 0, none⟩ _ (.inr rfl))⟩
  refine ((h.num.setOther (a := ⟨b, k, none⟩) (fun e => h3 e.symm) _).set 0 _).congr fun i hi => ?_
  obtain rfl : i = 0 := by omega
  rfl
theorem fits_grp (d M : Nat) (h : d ≤ 12) : Fits (fun i => ((grp d M i : Nat) : Int)) := fun i _ => by
  have h1 := grp_lt d M i
  have h2 := pow_le h
  show _ ≤ ((grp d M i : Nat) : Int) ∧ ((grp d M i : Nat) : Int) ≤ _
  omega
theorem fill_start (w : World) (Z : Array Value) (v : Nat → Int) (hZ : IsP Z (fun _ => 0)) :
    let w' := ((w.alloc (.cells Z 26)).alloc (.cells Z 26)).alloc (.cells #[.int .i64 0] 3)
    w'.rowIs (w.heap.size + 1) 26 256 (ints (fillp v 0)) ∧ w'.rowIs (w.heap.size + 1 + 1) 3 1 (fun _ => .int .i64 ((0 : Nat) : Int)) ∧ w'.heap[w.heap.size]? = some (.cells Z 26 (0, 0)) ∧ Below w.heap.size w w' ∧ w'.heap.size = w.heap.size + 3 := by
  intro w'
  have e1 : (w.alloc (.cells Z 26)).heap.size = w.heap.size + 1 := by simp
  have e2 : ((w.alloc (.cells Z 26)).alloc (.cells Z 26)).heap.size = w.heap.size + 2 := by simp
  have g1 := heap_alloc_last w (.cells Z 26)
  have g1' := (Below.heap_alloc (w.alloc (.cells Z 26)) (.cells Z 26) w.heap.size (by rw [e1]; omega)).trans g1
  have g1'' := (Below.heap_alloc ((w.alloc (.cells Z 26)).alloc (.cells Z 26)) (.cells #[.int .i64 0] 3) w.heap.size (by rw [e2]; omega)).trans g1'
  have g2 := heap_alloc_last (w.alloc (.cells Z 26)) (.cells Z 26)
  rw [e1] at g2
  have g2' := (Below.heap_alloc ((w.alloc (.cells Z 26)).alloc (.cells Z 26)) (.cells #[.int .i64 0] 3) (w.heap.size + 1) (by rw [e2]; omega)).trans g2
  have g3 := heap_alloc_last ((w.alloc (.cells Z 26)).alloc (.cells Z 26)) (.cells #[.int .i64 0] 3)
  rw [e2] at g3
  refine ⟨row_of g2' (fillp_zero hZ v), ⟨_, g3, rfl, fun i hi => ?_⟩, g1'', (((Below.refl w.heap.size w).alloc (Nat.le_refl _) _).alloc (by simp) _).alloc (by rw [e2]; omega) _, by simp [w']⟩
  obtain rfl : i = 0 := by omega
  rfl

set_option maxHeartbeats 2000000 in
set_option maxRecDepth 100000 in
theorem decoded_any (A : Option Addr) (bs : List Nat) (n c d : Nat) (w : World) (h1 : 1 ≤ d) (h2 : d ≤ 12) (hR : Kec.Rd w w.heap.size A bs) (hn : bs.length = n) (hnd : n = 32 * d) :
    Calls Tryd.prog 29 #[.int .i64 d, .slice A n c] w fun e w' => ∃ ds, e = .returned (.agg ds) ∧ IsP ds (fun i => (brv d (grp d (num 8 (Kec.gt bs) n) i) : Nat)) ∧ Below w.heap.size w w' := by
  have HR := Lib.hid hR; have HN := Lib.hid (fun _ : Unit => hn); have HND := Lib.hid (fun _ : Unit => hnd)
  have hn100 : n ≤ 100000 := by omega
  clear hR hn hnd
  obtain ⟨Z, hz, hZ⟩ := zero_poly
  have HZ := Lib.hid hZ; clear hZ
  refine callsIn_wide.1 (callsIn_of_wp_marks (n := 0) Tryd.func29 rfl trivial (wpIn_wide.2 ?_) rfl)
  simp only [Tryd.ntmps29, List.size_toArray, List.length_cons, List.length_nil, Nat.reduceAdd, Nat.reduceSub, Array.replicate_succ, Array.replicate_zero, List.push_toArray, List.append_toArray, List.nil_append, List.cons_append]
  obtain ⟨ad, rfl, hadB, -⟩ := HR.out.2 (by have := HN.out (); have := HND.out (); omega)
  go_wp2_with fail
  obtain ⟨w1, hw1⟩ : ∃ w1, ((w.alloc (.cells Z 26)).alloc (.cells Z 26)).alloc (.cells #[.int .i64 0] 3) = w1 := ⟨_, rfl⟩
  obtain ⟨k1, k2, k3, k4, k5⟩ := fill_start w Z (fun i => ((grp d (num 8 (Kec.gt bs) n) i : Nat) : Int)) HZ.out
  rw [hw1] at k1 k2 k3 k4 k5
  rw [hw1]
  refine (regb_any (some ad) n c 8 d _).mono ?_
  rintro e' w4 ⟨rfl, hw4⟩
  obtain ⟨b1, b2, b3, b4, b5⟩ := three_boxes w1 (.slice (some ad) n c) (.int .i64 8) (.int .i64 d) 22 3 3
  rw [← hw4] at b1 b2 b3 b4 b5
  have HI0 : Hid (FillI w.heap.size (w.heap.size + 1) (w.heap.size + 1 + 1) Z (fun i => ((grp d (num 8 (Kec.gt bs) n) i : Nat) : Int)) w 0 w4) := Lib.hid ((⟨k1, k2, k3, k4⟩ : FillI w.heap.size (w.heap.size + 1) (w.heap.size + 1 + 1) Z (fun i => ((grp d (num 8 (Kec.gt bs) n) i : Nat) : Int)) w 0 w1).kept (N := w1.heap.size) (Kept.of_below b5) (by omega) (by omega) (by omega) (by omega))
  have HR4 := Lib.hid ((HR.out.below (k4.trans (b5.mono k4.size))).more (k4.trans (b5.mono k4.size)).size)
  have B1 := Lib.hid b1; have B2 := Lib.hid b2; have B3 := Lib.hid b3
  have hcnt : 8 * n / d = 256 := by
    rw [HND.out (), show 8 * (32 * d) = 256 * d by omega]; exact Nat.mul_div_cancel _ (by omega)
  have HCNT := Lib.hid (fun _ : Unit => hcnt)
  have K5 := Lib.hid k5; have B4 := Lib.hid b4
  clear hw1 hw4 k1 k2 k3 k4 b1 b2 b3 b5 hcnt k5 b4
  go_wp2_with fail
  refine wpIn_wide.1 (wp_range_n (P := Tryd.prog) (gf := 49) (lb := #[.pointer (some ⟨w1.heap.size, 0, none⟩), .pointer (some ⟨w1.heap.size + 1, 0, none⟩), .pointer (some ⟨w1.heap.size + 2, 0, none⟩)]) rfl (enters_of Tryd.func49 (by kernel_rfl) rfl)
    (fun k => k = w.heap.size + 1 ∨ k = w.heap.size + 1 + 1) (fun k e => by have := K5.out; have := B4.out; rcases e with e | e <;> omega)
    (regb_hands w1.heap.size (w1.heap.size + 1) (w1.heap.size + 2) (some ad) bs n c d _ w4 (fun k e => by have := K5.out; have := B4.out; exact ⟨by omega, by omega, by omega, by omega, fun ad' e' => by cases e'; omega⟩) h1 h2 B1.out B2.out B3.out HR4.out (HN.out ()) hn100)
    (fun x => rfl) (FillI w.heap.size (w.heap.size + 1) (w.heap.size + 1 + 1) Z (fun i => ((grp d (num 8 (Kec.gt bs) n) i : Nat) : Int)) w) (fun _ _ _ => False)
    (fun k A B h hk => by have := K5.out; have := B4.out; exact h.kept hk (by omega) (by omega) (by omega) (by omega)) (fun c k A B h hk => h) HI0.out
    (fun k => { tmps := #[.int .i64 d, .slice (some ad) n c, undef, undef, .pointer (some ⟨w.heap.size, 0, none⟩), .pointer (some ⟨w.heap.size + 1, 0, none⟩), .pointer (some ⟨w.heap.size + 1 + 1, 0, none⟩), .int .i64 ((grp d (num 8 (Kec.gt bs) n) k : Nat) : Int), .slice (some ad) n c, .int .i64 d, .func (.func 49) #[] #[.pointer (some ⟨w1.heap.size, 0, none⟩), .pointer (some ⟨w1.heap.size + 1, 0, none⟩), .pointer (some ⟨w1.heap.size + 2, 0, none⟩)], .int .i64 ((grp d (num 8 (Kec.gt bs) n) k : Nat) : Int), undef, undef, undef, undef, undef, undef, undef, undef], defers := [] }) ?assign ?body ?done ?stop)
  case assign =>
    intro l x W K hK
    gi_wp2
    exact hK
  case body =>
    intro l k W hk hszW hI
    have HI := Lib.hid hI
    have hk256 : k < 256 := by rw [HCNT.out ()] at hk; exact hk
    have c0 := hI.num.cell (i := 0) (by omega)
    have f0 := hI.num.frozen 0
    have c1 := hI.row.cell hk256
    have f1 := hI.row.frozen k
    clear hI hk
    obtain ⟨x, hx⟩ : ∃ x, grp d (num 8 (Kec.gt bs) n) k = x := ⟨_, rfl⟩
    rw [hx]
    have HX := Lib.hid (fun _ : Unit => hx)
    clear hx
    gi_wp2
    obtain ⟨h9, h10⟩ := HI.out.step (by omega) (by omega) (by omega) (by omega) (by omega) (x := (x : Int)) (y := (k : Int) + 1) (by rw [HX.out ()]) (by omega)
    exact ⟨h10, h9⟩
  case done =>
    intro W hI hD
    rw [HCNT.out ()] at hI
    obtain ⟨cs, hcs, hP⟩ := of_row hI.row
    have hP := fillp_all hP
    have HD := Lib.hid hD; have HI := Lib.hid hI; have HP := Lib.hid hP; have HCS := Lib.hid hcs; have HSZ := Lib.hid (poly_sized hP)
    have HFT := Lib.hid (fits_grp d (num 8 (Kec.gt bs) n) h2)
    clear hI hD hP hcs
    rename_i K hK
    refine hK _ _ ?_
    clear hK K
    go_wp2_with (refine wpList_load_row rfl 26 (.tmp 5) rfl (w.heap.size + 1) rfl 26 cs (0, 0) _ HCS.out Tryd.underlying26 rfl HSZ.out ?_)
    refine (brought_any d cs _ W HP.out HFT.out h2).mono ?_
    rintro e' w5 ⟨ds, rfl, hD5, hB5⟩
    have hq := (hB5.block w.heap.size (Array.getElem?_eq_some_iff.1 HI.out.res).1).trans HI.out.res
    have hdf := (hB5.block w4.heap.size (Array.getElem?_eq_some_iff.1 HD.out).1).trans HD.out
    have hb := HI.out.below.trans (hB5.mono HI.out.below.size)
    have HDD := Lib.hid hD5; have HQ := Lib.hid hq; have HDF := Lib.hid hdf; have HB5 := Lib.hid hb
    have HS2 := Lib.hid (poly_sized hD5); have HM := Lib.hid (show Z.size = ds.size by rw [HZ.out.1, hD5.1])
    clear hD5 hB5 hq hdf hb
    go_wp2_with (refine wpList_store_row rfl 26 (.tmp 4) (.tmp 19) rfl w.heap.size ds rfl rfl 26 Z HQ.out HS2.out HM.out HDD.out.cells ?_)
    have hds := setRow_heap w5 w.heap.size _ ds 26 _ HQ.out
    have hN : w4.heap.size ≠ w.heap.size := by have := K5.out; have := B4.out; omega
    have hdf' : (w5.setRow w.heap.size ds).heap[w4.heap.size]? = some (.deferred (some [])) := (setRow_other w5 w.heap.size w4.heap.size ds hN).trans HDF.out
    refine ⟨by simp, .inl ⟨_, _, rfl, run_takeDeferred hdf', ?_⟩⟩
    have hds' : ((w5.setRow w.heap.size ds).putObj w4.heap.size (.deferred none)).heap[w.heap.size]? = some (.cells ds 26 (0, 0)) := (World.putObj_heap_other (fun e => hN e.symm)).trans hds
    refine ⟨_, results_cell_row (p := 4) (ty := 26) (by kernel_rfl) _ _ w.heap.size 26 ds (0, 0) _ rfl hds' Tryd.underlying26 rfl HS2.out, ?_⟩
    exact ⟨ds, rfl, HDD.out, (below_setRow HB5.out (Nat.le_refl _) _).grown (grownBy_putObj' _ w4.heap.size (.deferred none)) (below_setRow HB5.out (Nat.le_refl _) ds).size (fun k e => by cases e; have := K5.out; have := B4.out; omega)⟩
  case stop =>
    intro c k W _ h _
    exact h.elim
end Go.Proofs.YtdkhiooiakdecaaDoorR.Kp
