/- Walks: centred. -/
import Derived.Test.YtdkhiooiakdecaaDoorRKpWalkE
namespace Go.Proofs.YtdkhiooiakdecaaDoorR.Kp
set_option linter.all false
open Go.RowKit Iter Sm
attribute [local go_sem] Oper.semAt_some

/-! ### Small numbers -/
def cenV (bs : List Nat) : Nat → Int := fun i => cbd (grp 4 (num 8 (Kec.gt bs) 128) i)
def cenF (bs : List Nat) : Nat → F := redp (cenV bs)
theorem cen_fits (bs : List Nat) : Fits (cenV bs) := fun i _ => by
  have h1 := cbd_lo (grp 4 (num 8 (Kec.gt bs) 128) i)
  have h2 := cbd_hi (grp 4 (num 8 (Kec.gt bs) 128) i)
  show _ ≤ cbd _ ∧ cbd _ ≤ _
  omega
theorem cbd_of (x : Nat) : ((bt x 0 : Nat) : Int) + ((bt x 1 : Nat) : Int) - ((bt x 2 : Nat) : Int) - ((bt x 3 : Nat) : Int) = cbd x := by unfold cbd; omega
theorem and_one (n : Nat) : bits .and .i64 (n : Int) 1 = ((n % 2 : Nat) : Int) := by
  have h := i64_and_mask (n : Int) 1 (by omega)
  simp only [Nat.pow_one] at h
  rw [show ((2 : Nat) : Int) - 1 = 1 from rfl] at h
  rw [h]; omega
theorem and_bt0 (x : Nat) : bits .and .i64 (x : Int) 1 = ((bt x 0 : Nat) : Int) := by rw [and_one]; unfold bt; simp
theorem and_bt1 (x : Nat) : bits .and .i64 ((x : Int) / 2) 1 = ((bt x 1 : Nat) : Int) := by
  rw [show (x : Int) / 2 = ((x / 2 : Nat) : Int) by omega, and_one]; rfl
theorem and_bt2 (x : Nat) : bits .and .i64 ((x : Int) / 4) 1 = ((bt x 2 : Nat) : Int) := by
  rw [show (x : Int) / 4 = ((x / 4 : Nat) : Int) by omega, and_one]; rfl
theorem and_bt3 (x : Nat) : bits .and .i64 ((x : Int) / 8) 1 = ((bt x 3 : Nat) : Int) := by
  rw [show (x : Int) / 8 = ((x / 8 : Nat) : Int) by omega, and_one]; rfl
set_option maxHeartbeats 2000000 in
set_option maxRecDepth 100000 in
theorem centred_any (A : Option Addr) (bs : List Nat) (n c : Nat) (w : World) (hR : Kec.Rd w w.heap.size A bs) (hn : bs.length = n) (hnd : n = 128) :
    Calls Tryd.prog 23 #[.slice A n c] w fun e w' => ∃ ds, e = .returned (.agg ds) ∧ IsP ds (up (cenF bs)) ∧ Below w.heap.size w w' := by
  have HR := Lib.hid hR; have HN := Lib.hid (fun _ : Unit => hn); have HND := Lib.hid (fun _ : Unit => hnd)
  have hn100 : n ≤ 100000 := by omega
  clear hR hn hnd
  obtain ⟨Z, hz, hZ⟩ := zero_poly
  have HZ := Lib.hid hZ; clear hZ
  refine callsIn_wide.1 (callsIn_of_wp_marks (n := 0) Tryd.func23 rfl trivial (wpIn_wide.2 ?_) rfl)
  simp only [Tryd.ntmps23, List.size_toArray, List.length_cons, List.length_nil, Nat.reduceAdd, Nat.reduceSub, Array.replicate_succ, Array.replicate_zero, List.push_toArray, List.append_toArray, List.nil_append, List.cons_append]
  obtain ⟨ad, rfl, hadB, -⟩ := HR.out.2 (by have := HN.out (); have := HND.out (); omega)
  go_wp2_with fail
  obtain ⟨w1, hw1⟩ : ∃ w1, ((w.alloc (.cells Z 26)).alloc (.cells Z 26)).alloc (.cells #[.int .i64 0] 3) = w1 := ⟨_, rfl⟩
  obtain ⟨k1, k2, k3, k4, k5⟩ := fill_start w Z (cenV bs) HZ.out
  rw [hw1] at k1 k2 k3 k4 k5
  rw [hw1]
  refine (regb_any (some ad) n c 8 4 _).mono ?_
  rintro e' w4 ⟨rfl, hw4⟩
  obtain ⟨b1, b2, b3, b4, b5⟩ := three_boxes w1 (.slice (some ad) n c) (.int .i64 8) (.int .i64 4) 22 3 3
  rw [← hw4] at b1 b2 b3 b4 b5
  have HI0 : Hid (FillI w.heap.size (w.heap.size + 1) (w.heap.size + 1 + 1) Z (cenV bs) w 0 w4) := Lib.hid ((⟨k1, k2, k3, k4⟩ : FillI w.heap.size (w.heap.size + 1) (w.heap.size + 1 + 1) Z (cenV bs) w 0 w1).kept (N := w1.heap.size) (Kept.of_below b5) (by omega) (by omega) (by omega) (by omega))
  have HR4 := Lib.hid ((HR.out.below (k4.trans (b5.mono k4.size))).more (k4.trans (b5.mono k4.size)).size)
  have B1 := Lib.hid b1; have B2 := Lib.hid b2; have B3 := Lib.hid b3
  have hcnt : 8 * n / 4 = 256 := by rw [HND.out ()]
  have HCNT := Lib.hid (fun _ : Unit => hcnt)
  have K5 := Lib.hid k5; have B4 := Lib.hid b4
  clear hw1 hw4 k1 k2 k3 k4 b1 b2 b3 b5 hcnt k5 b4
  go_wp2_with fail
  refine wpIn_wide.1 (wp_range_n (P := Tryd.prog) (gf := 49) (lb := #[.pointer (some ⟨w1.heap.size, 0, none⟩), .pointer (some ⟨w1.heap.size + 1, 0, none⟩), .pointer (some ⟨w1.heap.size + 2, 0, none⟩)]) rfl (enters_of Tryd.func49 (by kernel_rfl) rfl)
    (fun k => k = w.heap.size + 1 ∨ k = w.heap.size + 1 + 1) (fun k e => by have := K5.out; have := B4.out; rcases e with e | e <;> omega)
    (regb_hands w1.heap.size (w1.heap.size + 1) (w1.heap.size + 2) (some ad) bs n c 4 _ w4 (fun k e => by have := K5.out; have := B4.out; exact ⟨by omega, by omega, by omega, by omega, fun ad' e' => by cases e'; omega⟩) (by omega) (by omega) B1.out B2.out B3.out HR4.out (HN.out ()) hn100)
    (fun x => rfl) (FillI w.heap.size (w.heap.size + 1) (w.heap.size + 1 + 1) Z (cenV bs) w) (fun _ _ _ => False)
    (fun k A B h hk => by have := K5.out; have := B4.out; exact h.kept hk (by omega) (by omega) (by omega) (by omega)) (fun c k A B h hk => h) HI0.out
    (fun k => { tmps := #[.slice (some ad) n c, undef, .pointer (some ⟨w.heap.size, 0, none⟩), .pointer (some ⟨w.heap.size + 1, 0, none⟩), .pointer (some ⟨w.heap.size + 1 + 1, 0, none⟩), .int .i64 ((grp 4 (num 8 (Kec.gt bs) n) k : Nat) : Int), .slice (some ad) n c, .func (.func 49) #[] #[.pointer (some ⟨w1.heap.size, 0, none⟩), .pointer (some ⟨w1.heap.size + 1, 0, none⟩), .pointer (some ⟨w1.heap.size + 2, 0, none⟩)], .int .i64 ((grp 4 (num 8 (Kec.gt bs) n) k : Nat) : Int), undef, undef, undef, undef, undef, undef, undef, undef, undef, undef, undef, undef, undef, undef, undef, undef, undef, undef, undef, undef], defers := [] }) ?assign ?body ?done ?stop)
  case assign =>
    intro l x W K hK
    gi_wp2
    exact hK
  case body =>
    intro l k W hk hszW hI
    have HI := Lib.hid hI
    have hk256 : k < 256 := by rw [HCNT.out ()] at hk; exact hk
    have c0 := hI.num.cell (i := 0) (by omega)
    have f0 := hI.num.frozen 0
    have c1 := hI.row.cell hk256
    have f1 := hI.row.frozen k
    clear hI hk
    obtain ⟨x, hx⟩ : ∃ x, grp 4 (num 8 (Kec.gt bs) n) k = x := ⟨_, rfl⟩
    rw [hx]
    have hv : cenV bs k = cbd x := by unfold cenV; rw [← hx, HND.out ()]
    have HX := Lib.hid (fun _ : Unit => hv)
    clear hx hv
    have a0 := and_bt0 x; have a1 := and_bt1 x; have a2 := and_bt2 x; have a3 := and_bt3 x
    have l0 := bt_lt x 0; have l1 := bt_lt x 1; have l2 := bt_lt x 2; have l3 := bt_lt x 3
    have HCB := Lib.hid (fun _ : Unit => cbd_of x)
    generalize bt x 0 = z0 at *; generalize bt x 1 = z1 at *; generalize bt x 2 = z2 at *; generalize bt x 3 = z3 at *
    gi_wp2
    obtain ⟨h9, h10⟩ := HI.out.step (by omega) (by omega) (by omega) (by omega) (by omega) (x := (z0 : Int) + (z1 : Int) - (z2 : Int) - (z3 : Int)) (y := (k : Int) + 1) (by rw [HX.out ()]; exact HCB.out ()) (by omega)
    exact ⟨h10, h9⟩
  case done =>
    intro W hI hD
    rw [HCNT.out ()] at hI
    obtain ⟨cs, hcs, hP⟩ := of_row hI.row
    have hP := fillp_all hP
    have HD := Lib.hid hD; have HI := Lib.hid hI; have HP := Lib.hid hP; have HCS := Lib.hid hcs; have HSZ := Lib.hid (poly_sized hP)
    have HFT := Lib.hid (cen_fits bs)
    clear hI hD hP hcs
    rename_i K hK
    refine hK _ _ ?_
    clear hK K
    go_wp2_with (refine wpList_load_row rfl 26 (.tmp 3) rfl (w.heap.size + 1) rfl 26 cs (0, 0) _ HCS.out Tryd.underlying26 rfl HSZ.out ?_)
    refine (mod_any cs _ W HP.out HFT.out).mono ?_
    rintro e' w5 ⟨ds, rfl, hD5, hB5⟩
    have hq := (hB5.block w.heap.size (Array.getElem?_eq_some_iff.1 HI.out.res).1).trans HI.out.res
    have hdf := (hB5.block w4.heap.size (Array.getElem?_eq_some_iff.1 HD.out).1).trans HD.out
    have hb := HI.out.below.trans (hB5.mono HI.out.below.size)
    have HDD := Lib.hid hD5; have HQ := Lib.hid hq; have HDF := Lib.hid hdf; have HB5 := Lib.hid hb
    have HS2 := Lib.hid (poly_sized hD5); have HM := Lib.hid (show Z.size = ds.size by rw [HZ.out.1, hD5.1])
    clear hD5 hB5 hq hdf hb
    go_wp2_with (refine wpList_store_row rfl 26 (.tmp 2) (.tmp 28) rfl w.heap.size ds rfl rfl 26 Z HQ.out HS2.out HM.out HDD.out.cells ?_)
    have hds := setRow_heap w5 w.heap.size _ ds 26 _ HQ.out
    have hN : w4.heap.size ≠ w.heap.size := by have := K5.out; have := B4.out; omega
    have hdf' : (w5.setRow w.heap.size ds).heap[w4.heap.size]? = some (.deferred (some [])) := (setRow_other w5 w.heap.size w4.heap.size ds hN).trans HDF.out
    refine ⟨by simp, .inl ⟨_, _, rfl, run_takeDeferred hdf', ?_⟩⟩
    have hds' : ((w5.setRow w.heap.size ds).putObj w4.heap.size (.deferred none)).heap[w.heap.size]? = some (.cells ds 26 (0, 0)) := (World.putObj_heap_other (fun e => hN e.symm)).trans hds
    refine ⟨_, results_cell_row (p := 2) (ty := 26) (by kernel_rfl) _ _ w.heap.size 26 ds (0, 0) _ rfl hds' Tryd.underlying26 rfl HS2.out, ?_⟩
    exact ⟨ds, rfl, HDD.out, (below_setRow HB5.out (Nat.le_refl _) _).grown (grownBy_putObj' _ w4.heap.size (.deferred none)) (below_setRow HB5.out (Nat.le_refl _) ds).size (fun k e => by cases e; have := K5.out; have := B4.out; omega)⟩
  case stop =>
    intro c k W _ h _
    exact h.elim
end Go.Proofs.YtdkhiooiakdecaaDoorR.Kp
