/- Walks of the document's own: Product. Written by tools/mk_smprodw.py. -/
import Derived.Test.YtaihlmedeebimaaLgRefC
import Derived.Test.YtaihlmedeebimaaLgProd
namespace Go.Proofs.Ytaihlmedeebimaa.Lg
open Go.RowKit
set_option linter.all false

theorem bump_row {w : World} {b j : Nat} {t : TypeId} {C : Nat → F} (v : F) (h : w.rowIs b t 256 (ints (up C))) : (w.setCell ⟨b, j, none⟩ (.int .i64 (nv v))).rowIs b t 256 (ints (up (bump C j v))) :=
  row_is (row_set h j _) fun i _ => by
    unfold up bump
    by_cases e : i = j
    · subst e; rw [if_pos rfl, if_pos rfl]
    · rw [if_neg e, if_neg e]
/-- what Product has about it -/
structure PR (w W : World) (Z : Array Value) (A B C : Nat → F) (bA bB bC bZ : Nat) : Prop where
  a : W.rowIs bA 23 256 (ints (up A))
  b : W.rowIs bB 23 256 (ints (up B))
  c : W.rowIs bC 23 256 (ints (up C))
  z : W.heap[bZ]? = some (.cells Z 23 (0, 0))
  below : Below w.heap.size w W
theorem PR.drew {w W : World} {Z : Array Value} {A B C : Nat → F} {bA bB bC bZ : Nat} (h : PR w W Z A B C bA bB bC bZ) : PR w W.drew Z A B C bA bB bC bZ := ⟨h.a, h.b, h.c, h.z, h.below.drew⟩
theorem PR.drewN {w W : World} {Z : Array Value} {A B C : Nat → F} {bA bB bC bZ : Nat} (h : PR w W Z A B C bA bB bC bZ) (n : Nat) : PR w (W.drewN n) Z A B C bA bB bC bZ := ⟨h.a, h.b, h.c, h.z, below_drewN h.below n⟩
theorem PR.put {w W : World} {Z : Array Value} {A B C : Nat → F} {bA bB bC bZ : Nat} (h : PR w W Z A B C bA bB bC bZ) (n1 : bA < bC) (n2 : bB < bC) (n3 : bZ < bC) (n4 : w.heap.size ≤ bC) (j : Nat) (v : F) :
    PR w (W.setCell ⟨bC, j, none⟩ (.int .i64 (nv v))) Z A B (bump C j v) bA bB bC bZ :=
  ⟨h.a.setOther (by show bA ≠ bC; omega) _, h.b.setOther (by show bB ≠ bC; omega) _, bump_row v h.c, (Below.heap_setCell _ _ _ _ (by show bZ ≠ bC; omega)).trans h.z, h.below.setCell n4 _⟩

set_option maxHeartbeats 4000000 in
set_option maxRecDepth 100000 in
theorem rprod_any (cs es : Array Value) (p q : Nat → Int) (w : World) (hP : IsP cs p) (hQ : IsP es q) (hFp : Fits p) (hFq : Fits q) :
    Calls Try.prog 26 #[.agg cs, .agg es] w fun e w' => ∃ ds, e = .returned (.agg ds) ∧ IsP ds (up (prod (redp p) (redp q))) ∧ Below w.heap.size w w' := by
  have HP := Lib.hid hP; have HQ := Lib.hid hQ; have HFp := Lib.hid hFp; have HFq := Lib.hid hFq; clear hP hQ hFp hFq
  obtain ⟨Z, hz, hZ⟩ := zero_poly
  have HZ := Lib.hid hZ; clear hZ
  have e1 : (w.alloc (.cells cs 23)).heap.size = w.heap.size + 1 := by simp
  have e2 : ((w.alloc (.cells cs 23)).alloc (.cells es 23)).heap.size = w.heap.size + 2 := by simp
  have HA0 := Lib.hid ((Below.heap_alloc ((w.alloc (.cells cs 23)).alloc (.cells es 23)) (.cells Z 23) w.heap.size (by rw [e2]; omega)).trans ((Below.heap_alloc (w.alloc (.cells cs 23)) (.cells es 23) w.heap.size (by rw [e1]; omega)).trans (heap_alloc_last w (.cells cs 23))))
  have r2 := heap_alloc_last (w.alloc (.cells cs 23)) (.cells es 23)
  rw [e1] at r2
  have HB0 := Lib.hid ((Below.heap_alloc ((w.alloc (.cells cs 23)).alloc (.cells es 23)) (.cells Z 23) (w.heap.size + 1) (by rw [e2]; omega)).trans r2)
  have r3 := heap_alloc_last ((w.alloc (.cells cs 23)).alloc (.cells es 23)) (.cells Z 23)
  rw [e2] at r3
  have HZ0 := Lib.hid r3
  have HW0 := Lib.hid ((((Below.refl _ _).alloc (Nat.le_refl w.heap.size) (.cells cs 23)).alloc (by simp) (.cells es 23)).alloc (by simp <;> omega) (.cells Z 23))
  clear r2 r3 e1 e2
  go_enter Try.func26, Try.ntmps26
  go_wp2_with (refine wpList_load_row rfl 23 (.tmp 2) rfl w.heap.size rfl 23 cs (0, 0) _ HA0.out Try.underlying23 rfl (poly_sized HP.out) ?_)
  refine (rmod_any cs p _ HP.out HFp.out).mono ?_
  rintro e' w1 ⟨ds, rfl, hD, hB⟩
  have hs1 : w.heap.size + 3 ≤ w1.heap.size := by have := hB.size; simpa using this
  have HD := Lib.hid hD
  have HA1 := Lib.hid ((hB.block w.heap.size (by simp <;> omega)).trans HA0.out)
  have HB1 := Lib.hid ((setRow_other w1 w.heap.size (w.heap.size + 1) ds (by omega)).trans ((hB.block (w.heap.size + 1) (by simp <;> omega)).trans HB0.out))
  have HZ1 := Lib.hid ((setRow_other w1 w.heap.size (w.heap.size + 2) ds (by omega)).trans ((hB.block (w.heap.size + 2) (by simp)).trans HZ0.out))
  have HW1 := Lib.hid (below_setRow (HW0.out.trans (hB.mono HW0.out.size)) (Nat.le_refl w.heap.size) ds)
  have HA2 := Lib.hid (setRow_heap w1 w.heap.size cs ds 23 (0, 0) HA1.out)
  have HM1 := Lib.hid (show cs.size = ds.size by rw [HP.out.1, hD.1])
  clear hD hB HA0 HB0 HZ0 HW0
  go_wp2_with (first | (refine wpList_store_row rfl 23 (.tmp 2) (.tmp 10) rfl w.heap.size ds rfl rfl 23 cs HA1.out (poly_sized HD.out) HM1.out HD.out.cells ?_) | (refine wpList_load_row rfl 23 (.tmp 3) rfl (w.heap.size + 1) rfl 23 es (0, 0) _ HB1.out Try.underlying23 rfl (poly_sized HQ.out) ?_))
  refine (rmod_any es q _ HQ.out HFq.out).mono ?_
  rintro e' w2 ⟨fs, rfl, hD2, hB⟩
  have hs2 : w.heap.size + 3 ≤ w2.heap.size := by have := hB.size; simp at this; omega
  have HD2 := Lib.hid hD2
  have HB2 := Lib.hid ((hB.block (w.heap.size + 1) (by simp; omega)).trans HB1.out)
  have HRA := Lib.hid (row_of ((setRow_other w2 (w.heap.size + 1) w.heap.size fs (by omega)).trans ((hB.block w.heap.size (by simp; omega)).trans HA2.out)) HD.out)
  have HZ2 := Lib.hid ((setRow_other w2 (w.heap.size + 1) (w.heap.size + 2) fs (by omega)).trans ((hB.block (w.heap.size + 2) (by simp; omega)).trans HZ1.out))
  have HRB := Lib.hid (row_of (setRow_heap w2 (w.heap.size + 1) es fs 23 (0, 0) HB2.out) HD2.out)
  have HW2 := Lib.hid (below_setRow (HW1.out.trans (hB.mono HW1.out.size)) (show w.heap.size ≤ w.heap.size + 1 by omega) fs)
  have HM2 := Lib.hid (show es.size = fs.size by rw [HQ.out.1, hD2.1])
  have hs3 : w.heap.size + 3 ≤ (w2.setRow (w.heap.size + 1) fs).heap.size := by simpa using hs2
  have HRC := Lib.hid (row_of (heap_alloc_last (w2.setRow (w.heap.size + 1) fs) (.cells Z 23)) HZ.out)
  have HRA := Lib.hid (HRA.out.alloc (.cells Z 23)); have HRB := Lib.hid (HRB.out.alloc (.cells Z 23))
  have HZ3 := Lib.hid ((Below.heap_alloc (w2.setRow (w.heap.size + 1) fs) (.cells Z 23) (w.heap.size + 2) (by omega)).trans HZ2.out)
  have HW3 := Lib.hid (HW2.out.alloc (by omega) (.cells Z 23))
  clear hD2 hB HA1 HA2 HB1 HZ1 HW1 HM1 HZ2 HW2
  go_wp2_with (refine wpList_store_row rfl 23 (.tmp 3) (.tmp 12) rfl (w.heap.size + 1) fs rfl rfl 23 es HB2.out (poly_sized HD2.out) HM2.out HD2.out.cells ?_)
  obtain ⟨bA, hbA⟩ : ∃ b, w.heap.size = b := ⟨_, rfl⟩
  obtain ⟨bB, hbB⟩ : ∃ b, w.heap.size + 1 = b := ⟨_, rfl⟩
  obtain ⟨bZ, hbZ⟩ : ∃ b, w.heap.size + 2 = b := ⟨_, rfl⟩
  obtain ⟨bC, hbC⟩ : ∃ b, (w2.setRow (w.heap.size + 1) fs).heap.size = b := ⟨_, rfl⟩
  have hbC' : w2.heap.size = bC := by rw [← hbC]; simp
  rw [hbC] at HRC hs3
  rw [hbB] at HRA HRB HZ3 HW3 HRC
  rw [hbZ] at HZ3
  have HLW : Hid (w.heap.size ≤ bC) := Lib.hid (by omega)
  have HLZ : Hid (w.heap.size ≤ bZ) := Lib.hid (by omega)
  have n1 : bA < bC := by omega
  have n2 : bB < bC := by omega
  have n3 : bZ < bC := by omega
  rw [hbA] at HRA
  obtain ⟨A, hA⟩ : ∃ A, redp p = A := ⟨_, rfl⟩
  obtain ⟨B, hB⟩ : ∃ B, redp q = B := ⟨_, rfl⟩
  rw [hA] at HRA; rw [hB] at HRB
  rw [show (w2.setRow (w.heap.size + 1) fs) = (w2.setRow bB fs) by rw [hbB]]
  rw [hbC', hbZ, hbB, hbA]
  change Code.wp _ _ _ _ ((w2.setRow bB fs).alloc (.cells Z 23))
  generalize (w2.setRow bB fs).alloc (.cells Z 23) = w3 at *
  have HP0 : Hid (PR w w3 Z A B (allTo A B 0) bA bB bC bZ) := Lib.hid ⟨HRA.out, HRB.out, row_is HRC.out (fun i _ => by unfold up; show (0 : Int) = nv 0; decide), HZ3.out, HW3.out⟩
  have HAE := Lib.hid hA; have HBE := Lib.hid hB; have HLC := HLW.out
  clear HRA HRB HRC HZ3 HW3 hA hB hs3 hbA hbB hbZ hbC hbC' HB2 HD HD2 HM2 hs1 hs2 hz
  go_loopw [6] (fun i W => ∃ k : Nat, k ≤ 256 ∧ i = .int .i64 k ∧ Hid (PR w W Z A B (allTo A B k) bA bB bC bZ)) (fun i _ => 256 - (intOf i).toNat)
  case atStart => exact ⟨0, by omega, rfl, HP0⟩
  case round =>
    clear HP0
    obtain ⟨i, hi, rfl, HR⟩ := hrel
    by_cases hlt : i < 256
    · have hdi : decide ((i : Int) < 256) = true := decide_eq_true (by omega)
      have HR0 : Hid (PR w wr Z A B (rowTo A B (allTo A B i) i 0) bA bB bC bZ) := HR
      clear HR
      go_wp2
      go_loopw [7] (fun k W => ∃ j : Nat, j ≤ 256 ∧ k = .int .i64 j ∧ Hid (PR w W Z A B (rowTo A B (allTo A B i) i j) bA bB bC bZ)) (fun k _ => 256 - (intOf k).toNat)
      case atStart => exact ⟨0, by omega, rfl, HR0⟩
      case round =>
        clear HR0
        obtain ⟨k, hk, rfl, HR⟩ := hrel
        by_cases hlk : k < 256
        · have hdk : decide ((k : Int) < 256) = true := decide_eq_true (by omega)
          have c1 := HR.out.a.cell (i := i) hlt
          have c2 := HR.out.b.cell (i := k) hlk
          unfold ints at c1 c2
          rw [up_at] at c1 c2
          have HS : Hid (rowTo A B (allTo A B i) i (k + 1) = put2 A B (rowTo A B (allTo A B i) i k) i k) := Lib.hid rfl
          obtain ⟨C, hC⟩ : ∃ C, rowTo A B (allTo A B i) i k = C := ⟨_, rfl⟩
          rw [hC] at HR HS
          clear hC
          obtain ⟨x, hx⟩ : ∃ x, A i = x := ⟨_, rfl⟩
          obtain ⟨y, hy⟩ : ∃ y, B k = y := ⟨_, rfl⟩
          rw [hx] at c1; rw [hy] at c2
          have HXE := Lib.hid hx; have HYE := Lib.hid hy
          clear hx hy
          have m1 := mul_bd x y
          have q1 : IntKind.i64.wrap (nv x * nv y) = nv x * nv y := IntWalk.i64_in _ (by omega)
          have q2 := mul_nv_t x y
          have q3 : IntKind.i64.wrap (nv (x * y)) = nv (x * y) := IntWalk.i64_in _ (by have := nv_lo (x * y); have := nv_hi (x * y); omega)
          have i0 : (0 : Int) ≤ (i : Int) := by omega
          have i1 : (i : Int) < 256 := by omega
          have i2 : (0 : Int) ≤ (k : Int) := by omega
          have i3 : (k : Int) < 256 := by omega
          have b1 := nv_lo (x * y); have b2 := nv_hi (x * y)
          have HRD := Lib.hid HR.out.drew
          by_cases hc : i + k < 256
          · have hdc : decide ((i : Int) + (k : Int) < 256) = true := decide_eq_true (by omega)
            have c3 := HR.out.c.cell (i := i + k) hc
            have d3 := HR.out.c.frozen (i + k)
            unfold ints at c3
            rw [up_at] at c3
            have a1 := nv_lo (C (i + k)); have a2 := nv_hi (C (i + k))
            have HE : Hid (put2 A B C i k = bump C (i + k) (C (i + k) + x * y)) := Lib.hid (by unfold put2; rw [if_pos hc, HXE.out, HYE.out])
            go_wp2
            go_region
            go_wp2_with fail
            refine (rmod_is _ (C (i + k) + x * y) _ (red_add_nv _ _) (by omega) (by omega)).mono ?_
            rintro e' w' ⟨rfl, rfl⟩
            go_wp2
            go_roundw
            case rel => exact ⟨k + 1, by omega, by go_num, Lib.hid (by rw [HS.out, HE.out]; exact HRD.out.put n1 n2 n3 HLC _ _)⟩
            case measure => simp [intOf]; omega
          · have hdc : decide ((i : Int) + (k : Int) < 256) = false := decide_eq_false (by omega)
            have c3 := HR.out.c.cell (i := i + k - 256) (by omega)
            have d3 := HR.out.c.frozen (i + k - 256)
            unfold ints at c3
            rw [up_at] at c3
            have a1 := nv_lo (C (i + k - 256)); have a2 := nv_hi (C (i + k - 256))
            have HE : Hid (put2 A B C i k = bump C (i + k - 256) (C (i + k - 256) - x * y)) := Lib.hid (by unfold put2; rw [if_neg hc, HXE.out, HYE.out])
            have t1 : ((i : Int) + (k : Int) - 256).toNat = i + k - 256 := by omega
            have t2 : (0 : Int) ≤ (i : Int) + (k : Int) - 256 := by omega
            have t3 : 256 ≤ (i : Int) + (k : Int) := by omega
            go_wp2
            go_region
            go_wp2_with fail
            refine (rmod_is _ (C (i + k - 256) - x * y) _ (red_sub_nv _ _) (by omega) (by omega)).mono ?_
            rintro e' w' ⟨rfl, rfl⟩
            go_wp2
            go_roundw
            case rel => exact ⟨k + 1, by omega, by go_num, Lib.hid (by rw [HS.out, HE.out]; exact HRD.out.put n1 n2 n3 HLC _ _)⟩
            case measure => simp [intOf]; omega
        · obtain rfl : k = 256 := by omega
          have hdk : decide (((256 : Nat) : Int) < 256) = false := by decide
          go_wp2
          go_roundw
          case rel => exact ⟨i + 1, by omega, by go_num, HR⟩
          case measure => simp [intOf]; omega
    · obtain rfl : i = 256 := by omega
      obtain ⟨ds, hds, hD⟩ := of_row HR.out.c
      have H1 := Lib.hid hds; have H2 := Lib.hid (show IsP ds (up (prod (redp p) (redp q))) by rw [HAE.out, HBE.out]; exact hD); have H3 := Lib.hid (poly_sized hD); have H4 := Lib.hid (show Z.size = ds.size by rw [HZ.out.1, hD.1]); clear hds hD
      go_wp2_with (first | (refine wpList_load_row rfl 23 (.tmp 5) rfl bC rfl 23 ds (0, 0) _ H1.out Try.underlying23 rfl H3.out ?_) | (refine wpList_store_row rfl 23 (.tmp 4) (.tmp 59) rfl bZ ds rfl rfl 23 Z HR.out.z H3.out H4.out H2.out.cells ?_))
      refine bodyPost_ret (v := .agg ds) (results_cell_row (p := 4) (ty := 23) (by kernel_rfl) _ _ bZ 23 ds (0, 0) _ rfl (setRow_heap _ _ _ _ _ _ HR.out.z) Try.underlying23 rfl H3.out) rfl ⟨ds, rfl, H2.out, below_setRow HR.out.below HLZ.out _⟩
end Go.Proofs.Ytaihlmedeebimaa.Lg
