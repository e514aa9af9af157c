/- Walks: KpkeSmall. -/
import Derived.Test.YtdkhiooiakdecabDoorRKpWalkI
import Derived.Test.YtdkhiooiakdecabDoorRKecRow
namespace Go.Proofs.YtdkhiooiakdecabDoorR.Kp
set_option linter.all false
open Go.RowKit Iter Sm

theorem cenW_small (bs : List Nat) (i : Nat) : 0 ≤ cenW bs i ∧ cenW bs i < 3329 ∧ (cenW bs i ≤ 2 ∨ 3327 ≤ cenW bs i) := by
  unfold cenW
  split
  · have h1 := cbd_lo (grp 4 (num 8 (Kec.gt bs) 128) i)
    have h2 := cbd_hi (grp 4 (num 8 (Kec.gt bs) 128) i)
    have e : up (cenF bs) i = cbd (grp 4 (num 8 (Kec.gt bs) 128) i) % 3329 := by
      show nv (red (cenV bs i)) = _
      rw [nv_red]; rfl
    rw [e]; omega
  · show 0 ≤ (0 : Int) ∧ (0 : Int) < 3329 ∧ ((0 : Int) ≤ 2 ∨ 3327 ≤ (0 : Int)); omega
/-- bytes that are all alike in each half of their bits -/
def alike (f : Nat) : List Nat := List.replicate 128 (85 * f)
theorem alike_gt (f i : Nat) (h : i < 128) : Kec.gt (alike f) i = 85 * f := by
  unfold Kec.gt alike
  rw [List.getD_eq_getElem?_getD, List.getElem?_replicate, if_pos h]; rfl
theorem alike_lt {f : Nat} (h : f < 4) : ∀ j, Kec.gt (alike f) j < 256 := Kec.gt_lt_of_mem fun x hx => by
  have := List.eq_of_mem_replicate hx; omega
theorem bt_bit (M i : Nat) : bt M i = bt (M / 2 ^ (i / 8 * 8) % 256) (i % 8) := by
  unfold bt
  have h := Nat.div_add_mod i 8
  have e1 : M / 2 ^ i = M / 2 ^ (i / 8 * 8) / 2 ^ (i % 8) := by rw [Nat.div_div_eq_div_mul, ← Nat.pow_add, Nat.mul_comm (i / 8) 8, h]
  rw [e1]
  generalize M / 2 ^ (i / 8 * 8) = A
  have hk : i % 8 < 8 := Nat.mod_lt _ (by omega)
  generalize i % 8 = k at *
  rw [show (256 : Nat) = 2 ^ k * 2 ^ (8 - k) by rw [← Nat.pow_add, show k + (8 - k) = 8 by omega], Nat.mod_mul_right_div_self]
  obtain ⟨m, hm⟩ : ∃ m, 8 - k = m + 1 := ⟨7 - k, by omega⟩
  rw [hm, Nat.pow_succ, Nat.mul_comm, Nat.mod_mul_right_mod]
theorem bt85 : ∀ f, f < 4 → ∀ k, k < 6 → bt (85 * f) k = bt (85 * f) (k + 2) := by decide
theorem alike_zero {f : Nat} (h : f < 4) (i : Nat) (hi : i < 256) : cbd (grp 4 (num 8 (Kec.gt (alike f)) 128) i) = 0 := by
  have hb : ∀ k, k < 4 → bt (grp 4 (num 8 (Kec.gt (alike f)) 128) i) k = bt (85 * f) ((4 * i + k) % 8) := fun k hk => by
    rw [bt_grp _ _ _ _ hk, bt_bit]
    have hd := num_dig (h := 8) (f := Kec.gt (alike f)) (fun j => (show _ < 2 ^ 8 from alike_lt h j)) 128 ((4 * i + k) / 8) (by omega)
    unfold grp at hd
    rw [Nat.mul_comm ((4 * i + k) / 8) 8, show (256 : Nat) = 2 ^ 8 from rfl, hd, alike_gt f _ (by omega)]
  refine cbd_alike _ ?_ ?_
  · rw [hb 0 (by omega), hb 2 (by omega)]
    have := bt85 f h ((4 * i + 0) % 8) (by omega)
    rw [this]; congr 1; omega
  · rw [hb 1 (by omega), hb 3 (by omega)]
    have := bt85 f h ((4 * i + 1) % 8) (by omega)
    rw [this]; congr 1; omega
theorem alike_cen {f : Nat} (h : f < 4) (i : Nat) (hi : i < 256) : cenW (alike f) i = 0 := by
  unfold cenW
  rw [if_pos (by simp [alike])]
  show nv (red (cbd _)) = 0
  rw [alike_zero h i hi, nv_red]; rfl
theorem and3 : ∀ c : Nat, c < 256 → bits .and .u8 (c : Int) 3 = ((c % 4 : Nat) : Int) := by decide +kernel
theorem or5 : ∀ f : Nat, f < 4 → bits .or .u8 ((f : Nat) : Int) ((f : Int) * 4) = ((5 * f : Nat) : Int) := by decide +kernel
theorem or21 : ∀ f : Nat, f < 4 → bits .or .u8 ((5 * f : Nat) : Int) ((f : Int) * 16) = ((21 * f : Nat) : Int) := by decide +kernel
theorem or85 : ∀ f : Nat, f < 4 → bits .or .u8 ((21 * f : Nat) : Int) ((f : Int) * 64) = ((85 * f : Nat) : Int) := by decide +kernel

def fillB (f k : Nat) : Nat → Value := fun i => if i < k then .int .u8 ((85 * f : Nat) : Int) else .int .u8 0
set_option maxHeartbeats 8000000 in
set_option maxRecDepth 100000 in
theorem small_walk (A : Option Addr) (bs : List Nat) (n c : Nat) (x : Nat) (w : World) (hR : Kec.Rd w w.heap.size A bs) (hn : bs.length = n) (hm : n ≤ 9223372036854775807) (hx : x < 256) :
    Calls Tryd.prog 3 #[.slice A n c, .int .u8 x] w fun e w' => e = .returned (.bool true) ∧ Below w.heap.size w w' := by
  obtain ⟨Z, hz, hZ⟩ := zero_poly
  have HZ := Lib.hid hZ; have HR := Lib.hid hR; have HN := Lib.hid (fun _ : Unit => hn)
  have ha := and3 x hx
  obtain ⟨f, hf⟩ : ∃ f, x % 4 = f := ⟨_, rfl⟩
  rw [hf] at ha
  have hf4 : f < 4 := by omega
  have o1 := or5 f hf4; have o2 := or21 f hf4; have o3 := or85 f hf4
  obtain ⟨g1, hg1⟩ : ∃ g, 5 * f = g := ⟨_, rfl⟩
  obtain ⟨g2, hg2⟩ : ∃ g, 21 * f = g := ⟨_, rfl⟩
  obtain ⟨g3, hg3⟩ : ∃ g, 85 * f = g := ⟨_, rfl⟩
  rw [hg1] at o1 o2; rw [hg2] at o2 o3; rw [hg3] at o3
  have HG3 := Lib.hid (fun _ : Unit => hg3)
  have hb1 : ((bs.length : Int) == 128) = (cenE bs == 0) := by
    unfold cenE
    by_cases h : bs.length = 128
    · rw [if_pos h, h]; rfl
    · rw [if_neg h, show ((bs.length : Int) == 128) = false by rw [beq_eq_false_iff_ne]; omega]; rfl
  rw [hn] at hb1
  have HB1 := Lib.hid (fun _ : Unit => hb1)
  obtain ⟨Z8, hZ8⟩ : ∃ Z8, madeCells #[Value.int .u8 0] 128 = Z8 := ⟨_, rfl⟩
  have hmk : ∀ W, (Instr.makeSlice 22 (.int .i64 128) (.int .i64 128)).run Tryd.prog W = .ok (.slice (some ⟨W.heap.size, 0, none⟩) 128 128) (W.alloc (.cells Z8 5)) := fun W => by
    rw [← hZ8]
    exact run_make_row' (P := Tryd.prog) 22 5 (.int .u8 0) 1 Tryd.underlying22 (by kernel_rfl) rfl .i64 .i64 128 (by omega) (by omega) W
  have HZ8 := Lib.hid hZ8
  clear hZ hR hn hf hg1 hg2 hg3 hb1 hZ8
  go_enter Tryd.func3, Tryd.ntmps3
  go_wp2_with fail
  refine (head_any _).mono ?_
  rintro e' w1 ⟨rfl, hB⟩
  have HBa := Lib.hid hB
  clear hB
  go_wp2_with fail
  refine (centred_all A bs n c _ ((HR.out.below HBa.out).more HBa.out.size) (HN.out ()) hm).mono ?_
  rintro e' w2 ⟨xs, rfl, hX, hB⟩
  have HX := Lib.hid hX
  have HBb := Lib.hid (HBa.out.trans (hB.mono HBa.out.size))
  clear hB hX HBa
  obtain ⟨E, hE⟩ : ∃ E, cenE bs = E := ⟨_, rfl⟩
  have hb1 := HB1.out ()
  rw [hE] at hb1
  rw [hE]
  clear hE
  go_wp2_with (refine wpList_store_row rfl 25 (.tmp 6) (.tmp 18) rfl w2.heap.size xs rfl rfl 25 Z (heap_alloc_last w2 _) (poly_sized HX.out) (by rw [HZ.out.1, HX.out.1]) HX.out.cells ?_)
  rw [World.setRow_alloc_new]
  have hb3 := (Below.refl w2.heap.size w2).alloc (Nat.le_refl _) (.cells xs 25)
  have HXR := Lib.hid (row_of (heap_alloc_last w2 (.cells xs 25)) HX.out)
  have HBc := Lib.hid (HBb.out.trans (hb3.mono HBb.out.size))
  obtain ⟨D, hD⟩ : ∃ D, w2.heap.size = D := ⟨_, rfl⟩
  obtain ⟨w3, hw3⟩ : ∃ w3, w2.alloc (.cells xs 25) = w3 := ⟨_, rfl⟩
  rw [hw3] at HXR HBc
  rw [hD] at HXR
  rw [hw3, hD]
  clear hb3 hw3 hD HBb hb1
  go_loopw [8] (fun i W => ∃ j : Nat, j ≤ 256 ∧ i = .int .i64 j ∧ Hid (W.rowIs D 25 256 (ints (cenW bs))) ∧ Hid (Below w.heap.size w W)) (fun i _ => 256 - (intOf i).toNat)
  case atStart => exact ⟨0, by omega, rfl, HXR, HBc⟩
  case round =>
    obtain ⟨j, hj, rfl, HXR, HBc⟩ := hrel
    by_cases hlt : j < 256
    · have cj := HXR.out.cell hlt
      unfold ints at cj
      obtain ⟨s1, s2, s3⟩ := cenW_small bs j
      obtain ⟨z, hz'⟩ : ∃ z, cenW bs j = z := ⟨_, rfl⟩
      rw [hz'] at cj s1 s2 s3
      clear hz'
      by_cases hz2 : z ≤ 2
      · go_wp2
        go_roundw
        case rel => exact ⟨j + 1, by omega, by go_num, HXR, HBc⟩
        case measure => simp [intOf]; omega
      · have hz3 : 3327 ≤ z := by omega
        go_wp2
        go_roundw
        case rel => exact ⟨j + 1, by omega, by go_num, HXR, HBc⟩
        case measure => simp [intOf]; omega
    · obtain rfl : j = 256 := by omega
      have hrow := World.rowIs_made wr (.int .u8 0) 128 5
      rw [HZ8.out] at hrow
      have HRW := Lib.hid hrow
      have HB4 := Lib.hid (HBc.out.alloc HBc.out.size (.cells Z8 5))
      clear hrow
      go_wp2_with fail
      obtain ⟨G, hG⟩ : ∃ G, wr.heap.size = G := ⟨_, rfl⟩
      have hGw : w.heap.size ≤ G := by rw [← hG]; exact HBc.out.size
      obtain ⟨w4, hw4⟩ : ∃ w4, wr.alloc (.cells Z8 5) = w4 := ⟨_, rfl⟩
      rw [hw4] at HRW HB4
      rw [hG] at HRW
      rw [hw4, hG]
      clear hw4 hG hmk
      go_loopw [11] (fun i W => ∃ k : Nat, k ≤ 128 ∧ i = .int .i64 k ∧ Hid (W.rowIs G 5 128 (fillB f k)) ∧ Hid (Below w.heap.size w W)) (fun i _ => 128 - (intOf i).toNat)
      case atStart => exact ⟨0, by omega, rfl, Lib.hid (HRW.out.congr fun i _ => by unfold fillB; rw [if_neg (by omega)]), HB4⟩
      case round =>
        obtain ⟨k, hk, rfl, HR8, HB8⟩ := hrel
        by_cases hlt8 : k < 128
        · have f8 := HR8.out.frozen k
          have c8 : ∃ v, wr.cell? ⟨G, k, none⟩ = some v ∧ v = .int .u8 0 := ⟨_, HR8.out.cell hlt8, by unfold fillB; rw [if_neg (by omega)]⟩
          obtain ⟨v8, c8, hv8⟩ := c8
          subst hv8
          go_wp2
          go_roundw
          case rel =>
            refine ⟨k + 1, by omega, by go_num, Lib.hid ((HR8.out.set k _).congr fun i hi => ?_), Lib.hid (HB8.out.setCell (p := ⟨G, k, none⟩) hGw _)⟩
            unfold fillB
            by_cases e : i = k
            · subst e; rw [if_pos rfl, if_pos (by omega), HG3.out ()]
            · rw [if_neg e]
              by_cases h : i < k
              · rw [if_pos h, if_pos (by omega)]
              · rw [if_neg h, if_neg (by omega)]
          case measure => simp [intOf]; omega
        · obtain rfl : k = 128 := by omega
          have hRa : Kec.Rd wr wr.heap.size (some ⟨G, 0, none⟩) (alike f) := ⟨alike_lt hf4, fun _ => ⟨_, rfl, HR8.out.lt, fun j hj => by
            have hj' : j < 128 := by simpa [alike] using hj
            have ha : (⟨G, 0, none⟩ : Addr).add j = ⟨G, j, none⟩ := by unfold Addr.add; split <;> simp_all
            rw [ha, HR8.out.cell hj', alike_gt f j hj']
            unfold fillB; rw [if_pos hj']⟩⟩
          have HRa := Lib.hid hRa
          clear hRa
          go_wp2_with fail
          refine (centred_all (some ⟨G, 0, none⟩) (alike f) 128 128 _ HRa.out (by simp [alike]) (by omega)).mono ?_
          rintro e' w9 ⟨ys, rfl, hY, hB⟩
          obtain rfl : ys = Z := hY.one HZ.out fun i hi => alike_cen hf4 i hi
          rw [show cenE (alike f) = 0 by unfold cenE; rw [if_pos (by simp [alike])]]
          have HB9 := Lib.hid (HB8.out.trans (hB.mono HB8.out.size))
          clear hB hY
          have HI := Lib.hid (poly_sized HZ.out)
          go_wp2_with (refine wpList_store_row rfl 25 (.tmp 12) (.tmp 77) rfl w9.heap.size ys rfl rfl 25 ys (heap_alloc_last w9 _) HI.out rfl HZ.out.cells ?_)
          rw [World.setRow_alloc_new]
          have HN10 := Lib.hid (heap_alloc_last w9 (.cells ys 25))
          have HB10 := Lib.hid (HB9.out.alloc HB9.out.size (.cells ys 25))
          obtain ⟨w10, hw10⟩ : ∃ w10, w9.alloc (.cells ys 25) = w10 := ⟨_, rfl⟩
          rw [hw10] at HN10 HB10
          rw [hw10]
          clear hw10
          have hre := fun w => run_eq HZ.out w
          have hgd := fun x y w => guard_poly .eql x y ys ys w
          go_wp2_with fail
          refine wp_load_row 25 (.tmp 12) rfl w9.heap.size rfl 25 ys (0, 0) _ HN10.out Tryd.underlying25 rfl HI.out ?_
          rename_i K hK
          refine hK _ _ ?_
          clear hK K
          go_wp2_with fail
          go_ret
          exact ⟨rfl, HB10.out⟩
theorem kpkeSmall_walk (a0 : Option Addr) (len0 cap0 : Nat) (z0 : List Int) (a1 : Int) (w : World) (_hT : Kec.Tables w) (w0 : Kec.IsRow .u8 w a0 len0 cap0 z0) (w1 : (Lit.int .u8 a1).wf = true) :
    Calls Tryd.prog 3 #[.slice a0 len0 cap0, .int .u8 a1] w fun e w' => e = .returned (.bool true) ∧ Below w.heap.size w w' := by
  obtain ⟨x, rfl, hx⟩ := Kec.byte_of_wf w1
  obtain ⟨hR, hn, hm⟩ := Kec.rd_of_row w0
  exact small_walk a0 _ len0 cap0 x w hR hn hm hx
end Go.Proofs.YtdkhiooiakdecabDoorR.Kp
