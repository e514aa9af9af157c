/- Walks of the document's own: Encode. Written by tools/mk_kprenc.py. -/
import Derived.Test.YtdkhiooiakdecaaDoorRKpRefB
import Derived.Test.YtdkhiooiakdecaaDoorRKpRefP
import Derived.Test.YtdkhiooiakdecaaDoorRKecKit
namespace Go.Proofs.YtdkhiooiakdecaaDoorR.Kp
set_option linter.all false
open Go.RowKit Iter Sm

/-- the bytes whose bits up to a are laid -/
def partB (M a : Nat) : Nat → Value := fun t => .int .u8 ((grp 8 (M % 2 ^ a) t : Nat) : Int)
theorem partB_set {w : World} {g n M a : Nat} (h : w.rowIs g 5 n (partB M a)) {z : Int} (hz : z = ((grp 8 (M % 2 ^ a) (a / 8) + bt M a * 2 ^ (a % 8) : Nat) : Int)) : (w.setCell ⟨g, a / 8, none⟩ (.int .u8 z)).rowIs g 5 n (partB M (a + 1)) :=
  (h.set (a / 8) _).congr fun i _ => by
    unfold partB
    rw [part_succ M a i]
    by_cases e : i = a / 8
    · rw [if_pos e, if_pos e, hz, e]
    · rw [if_neg e, if_neg e]
open Kec in
theorem held_of_bytes {lo g n : Nat} {w : World} {bs : List Nat} (h : w.rowIs g 5 n (byteRow bs)) (hl : bs.length = n) (hx : ∀ j, gt bs j < 256) (hb : lo ≤ g) (c : Nat) : Held lo (.slice (some ⟨g, 0, none⟩) n c) bs w := by
  refine ⟨_, _, _, rfl, ⟨hx, fun _ => ⟨_, rfl, h.lt, fun j hj => ?_⟩⟩, hl, fun ad e => by injection e with e; subst e; exact hb⟩
  have ha : (⟨g, 0, none⟩ : Addr).add j = ⟨g, j, none⟩ := by unfold Addr.add; split <;> simp_all
  rw [ha, h.cell (by omega)]; rfl
theorem u8_or_part {a r : Nat} (b : Nat) (ha : a < 2 ^ r) (hr : r < 8) (hb : b < 2) : bits .or .u8 (a : Int) ((b : Int) * 2 ^ r) = ((a + b * 2 ^ r : Nat) : Int) := by
  have h2 := pow_small r hr
  have h3 := Nat.mul_le_mul_right (2 ^ r) (show b ≤ 1 by omega)
  rw [pow_int, ← Int.natCast_mul, u8_or_nat _ _ (by omega) (by omega), or_add b ha]
theorem u8_shl (b r : Nat) (hb : b < 2) (hr : r < 8) : 0 ≤ (b : Int) * 2 ^ r ∧ (b : Int) * 2 ^ r < 256 := by
  have h2 := pow_small r hr
  have h3 := Nat.mul_le_mul_right (2 ^ r) (show b ≤ 1 by omega)
  rw [pow_int, ← Int.natCast_mul]; omega
set_option maxHeartbeats 8000000 in
set_option maxRecDepth 100000 in
theorem rencode_ok (d : Nat) (cs : Array Value) (p : Nat → Int) (w : World) (hP : IsP cs p) (hF : Fits p) (h1 : 1 ≤ d) (h2 : d < 12) :
    Calls Tryd.prog 20 #[.int .i64 d, .agg cs] w (Kec.Told (encB d p) w) := by
  have hd12 : d ≤ 12 := by omega
  obtain ⟨P, hPe⟩ : ∃ P, 2 ^ d = P := ⟨_, rfl⟩
  have hP1 : 1 ≤ P := by rw [← hPe]; exact Nat.two_pow_pos d
  have hP2 : P ≤ 4096 := by rw [← hPe]; exact pow_le hd12
  have hpk : (2 : Int) ^ d = (P : Int) := by rw [pow_int, hPe]
  have q0 : IntKind.i64.wrap (P : Int) = (P : Int) := by rw [IntKind.wrap_i64]; omega
  have HF := Lib.hid hF; have HP := Lib.hid hP; have HPE := Lib.hid hPe
  have HG := Lib.hid (row_of (heap_alloc_last w (.cells cs 26)) hP)
  have HB0 := Lib.hid ((Below.refl w.heap.size w).alloc (Nat.le_refl _) (.cells cs 26))
  have HS0 := Lib.hid (show (w.alloc (.cells cs 26)).heap.size = w.heap.size + 1 by simp)
  obtain ⟨N, hN⟩ : ∃ N, N = 32 * d := ⟨_, rfl⟩
  have hN5 : N ≤ 32 * d := by omega
  have hN6 : 32 * d ≤ N := by omega
  have eN : 32 * (d : Int) = (N : Int) := by omega
  have HN := Lib.hid hN
  obtain ⟨Z8, hZ8⟩ : ∃ Z8, madeCells #[Value.int .u8 0] N = Z8 := ⟨_, rfl⟩
  have hmk : ∀ W, (Instr.makeSlice 22 (.int .i64 N) (.int .i64 N)).run Tryd.prog W = .ok (.slice (some ⟨W.heap.size, 0, none⟩) N N) (W.alloc (.cells Z8 5)) := fun W => by
    rw [← hZ8]
    exact run_make_row' (P := Tryd.prog) 22 5 (.int .u8 0) 1 Tryd.underlying22 (by kernel_rfl) rfl .i64 .i64 N (by omega) (by omega) W
  have hrow := World.rowIs_made (w.alloc (.cells cs 26)) (.int .u8 0) N 5
  rw [hZ8] at hrow
  obtain ⟨M, hM⟩ : ∃ M, num d (fun i => brv d (p i)) 256 = M := ⟨_, rfl⟩
  have HM := Lib.hid hM
  have hml : M < 2 ^ (d * 256) := by rw [← hM]; exact num_lt 256 fun i _ => brv_lt d (p i)
  have HML := Lib.hid hml
  have HDIG : Hid (∀ i, i < 256 → grp d M i = brv d (p i)) := Lib.hid fun i hi => by rw [← hM]; exact num_dig (fun i => brv_lt d (p i)) 256 i hi
  have HR0 : Hid (((w.alloc (.cells cs 26)).alloc (.cells Z8 5)).rowIs (w.alloc (.cells cs 26)).heap.size 5 N (partB M 0)) := Lib.hid (hrow.congr fun i _ => by unfold partB; rw [part_none]; rfl)
  have HB1 := Lib.hid (HB0.out.alloc HB0.out.size (.cells Z8 5))
  have HG1 := Lib.hid (HG.out.alloc (.cells Z8 5))
  have HD := Lib.hid (h2)
  have hdeq : ((d : Int) == 12) = false := by rw [beq_eq_false_iff_ne]; omega
  have hdne : ¬ ((d : Int) = 12) := by omega
  have hd13 : ¬ (12 < (d : Int)) := by omega
  clear hP hF hPe hN hZ8 hrow hM hml 
  go_enter Tryd.func20, Tryd.ntmps20
  go_wp2_with fail
  rw [show decide ((d : Int) < 1) = false from decide_eq_false (by omega)]
  rw [HS0.out] at HR0
  obtain ⟨w1, hw1⟩ : ∃ w1, (w.alloc (.cells cs 26)).alloc (.cells Z8 5) = w1 := ⟨_, rfl⟩
  rw [hw1] at HR0 HB1 HG1
  rw [hw1]
  clear hw1 hmk
  go_loopw [6] (fun i W => ∃ j : Nat, j ≤ 256 ∧ i = .int .i64 j ∧ Hid (W.rowIs (w.heap.size + 1) 5 N (partB M (d * j))) ∧ Hid (W.rowIs w.heap.size 26 256 (ints p)) ∧ Hid (Below w.heap.size w W)) (fun i _ => 256 - (intOf i).toNat)
  case atStart => exact ⟨0, by omega, rfl, HR0, HG1, HB1⟩
  case round =>
    obtain ⟨j, hj, rfl, HRj, HGj, HBj⟩ := hrel
    by_cases hlt : j < 256
    · have cj := HGj.out.cell hlt
      unfold ints at cj
      have hfj := HF.out j hlt
      obtain ⟨pj, hpj⟩ : ∃ z, p j = z := ⟨_, rfl⟩
      rw [hpj] at cj hfj
      have HX : Hid (grp d M j = brv d pj) := Lib.hid (by rw [HDIG.out j hlt, hpj])
      have hbl := brv_lt d pj
      rw [HPE.out] at hbl
      obtain ⟨x, hx⟩ : ∃ x, brv d pj = x := ⟨_, rfl⟩
      rw [hx] at HX hbl
      have HXE := Lib.hid hx
      have hjd : d * j + d ≤ d * 256 := by
        have := Nat.mul_le_mul_left d (show j + 1 ≤ 256 by omega)
        rw [Nat.mul_succ] at this; exact this
      have ejd : (j : Int) * (d : Int) = ((d * j : Nat) : Int) := by rw [Int.natCast_mul, Int.mul_comm]
      obtain ⟨q, hq⟩ : ∃ q, d * j = q := ⟨_, rfl⟩
      rw [hq] at hjd ejd
      have HQ := Lib.hid hq
      have HL1 := Lib.hid (rmod_two pj d P wr.drew HPE.out hd12 hfj.1 hfj.2)
      clear hpj hx hq
      go_wp2
      refine wp_region_still_tail 6 (by kernel_rfl) (by kernel_rfl) ?_
      simp only [List.take_succ_cons, List.take_zero, List.drop_succ_cons, List.drop_zero]
      repeat still_step
      still_call HL1.out
      refine wpStill_nil ?_
      change wpList _ _ _ _ _ wr.drew
      have HRd := Lib.hid HRj.out.drew; have HGd := Lib.hid HGj.out.drew; have HBd := Lib.hid (Below.drew HBj.out)
      have cj' := HGd.out.cell hlt
      have hr2 : rd2 d pj = x := by rw [← HXE.out]; unfold brv; rw [if_neg (by have := HD.out; omega)]
      rw [hr2]
      clear hr2 cj'
      go_wp2_with fail
      try rw [show decide ((j : Int) < 256) = true from decide_eq_true (by omega)]
      have hxb : x < 2 ^ 12 := by omega
      go_loopw [8] (fun i W => ∃ k : Nat, k ≤ d ∧ i = .int .i64 k ∧ Hid (W.rowIs (w.heap.size + 1) 5 N (partB M (q + k))) ∧ Hid (W.rowIs w.heap.size 26 256 (ints p)) ∧ Hid (Below w.heap.size w W)) (fun i _ => d - (intOf i).toNat)
      case atStart => exact ⟨0, by omega, rfl, Lib.hid (by rw [Nat.add_zero, ← HQ.out]; exact HRd.out), HGd, HBd⟩
      case round =>
        obtain ⟨k, hk, rfl, HRk, HGk, HBk⟩ := hrel
        by_cases hkd : k < d
        · obtain ⟨a, hae⟩ : ∃ a, q + k = a := ⟨_, rfl⟩
          have ea : (q : Int) + (k : Int) = (a : Int) := by omega
          have ha8 : a < 8 * N := by omega
          rw [hae] at HRk
          obtain ⟨B, hB⟩ : ∃ B, a / 8 = B := ⟨_, rfl⟩
          obtain ⟨r, hr⟩ : ∃ r, a % 8 = r := ⟨_, rfl⟩
          have hBN : B < N := by omega
          have hr8 : r < 8 := by omega
          have eB : (a : Int) / 8 = (B : Int) := by omega
          have eB2 : IntKind.i64.wrap ((a : Int).tdiv 8) = (B : Int) := by rw [Int.tdiv_eq_ediv_of_nonneg (by omega), IntKind.wrap_i64]; omega
          have wB : IntKind.i64.wrap (B : Int) = (B : Int) := by rw [IntKind.wrap_i64]; omega
          have wr0 : IntKind.i64.wrap (r : Int) = (r : Int) := by rw [IntKind.wrap_i64]; omega
          have er2 : (a : Int).tmod 8 = (r : Int) := by rw [Int.tmod_eq_emod_of_nonneg (by omega)]; omega
          have er : (a : Int) % 8 = (r : Int) := by omega
          have cB := HRk.out.cell hBN
          have fB := HRk.out.frozen B
          unfold partB at cB
          have hO := part_lt M a
          rw [← part_byte, hB, hr] at hO
          obtain ⟨O, hOe⟩ : ∃ O, grp 8 (M % 2 ^ a) B = O := ⟨_, rfl⟩
          rw [hOe] at cB hO
          have hbit : bt x k = bt M a := by
            have := bt_grp M d j k hkd
            rw [HX.out, HQ.out, hae] at this
            exact this
          have hb2 := bt_lt x k
          have hsh := shr_nat x k
          obtain ⟨y, hy⟩ : ∃ y, x / 2 ^ k = y := ⟨_, rfl⟩
          rw [hy] at hsh
          have hand := and_one y
          have hbt : bt x k = y % 2 := by unfold bt; rw [hy]
          obtain ⟨b, hbe⟩ : ∃ b, y % 2 = b := ⟨_, rfl⟩
          rw [hbe] at hand hbt
          rw [hbt] at hb2
          have wb : IntKind.i64.wrap (b : Int) = (b : Int) := by rw [IntKind.wrap_i64]; omega
          have hu1 : IntKind.u8.wrap (b : Int) = (b : Int) := by rw [IntKind.wrap_u8]; omega
          obtain ⟨g1, g2⟩ := u8_shl b r hb2 hr8
          have hu2 : IntKind.u8.wrap ((b : Int) * 2 ^ r) = (b : Int) * 2 ^ r := by rw [IntKind.wrap_u8]; omega
          have hor := u8_or_part b hO hr8 hb2
          obtain ⟨V, hV⟩ : ∃ V, O + b * 2 ^ r = V := ⟨_, rfl⟩
          rw [hV] at hor
          have HV : Hid (((V : Nat) : Int) = ((grp 8 (M % 2 ^ a) (a / 8) + bt M a * 2 ^ (a % 8) : Nat) : Int)) := Lib.hid (by rw [hB, hr, hOe, ← hbit, hbt, hV])
          have HBE := Lib.hid hB; have HAE := Lib.hid hae
          clear hae hB hr hOe hbit hy hbt hbe hV hO
          go_wp2
          have HRz := Lib.hid HRk.out.drew; have HGz := Lib.hid HGk.out.drew; have HBz := Lib.hid (Below.drew HBk.out)
          refine wp_region_still_tail 18 (by kernel_rfl) (by kernel_rfl) ?_
          simp only [List.take_succ_cons, List.take_zero, List.drop_succ_cons, List.drop_zero]
          repeat still_step
          refine wpStill_nil ?_
          change wpList _ _ _ _ _ wr.drew
          have cBz := HRz.out.cell hBN; have fBz := HRz.out.frozen B
          go_wp2
          go_roundw
          case rel =>
            refine ⟨k + 1, by omega, by go_num, Lib.hid ?_, Lib.hid ?_, Lib.hid ?_⟩
            · have := partB_set HRz.out HV.out
              rw [HBE.out] at this
              rw [← Nat.add_assoc, HAE.out]
              exact this
            · exact HGz.out.setOther (a := ⟨w.heap.size + 1, B, none⟩) (by show w.heap.size ≠ w.heap.size + 1; omega) _
            · exact HBz.out.setCell (p := ⟨w.heap.size + 1, B, none⟩) (by show w.heap.size ≤ w.heap.size + 1; omega) _
          case measure => simp [intOf]; omega
        · obtain rfl : k = d := by omega
          go_wp2
          go_roundw
          case rel => exact ⟨j + 1, by omega, by go_num, Lib.hid (by rw [Nat.mul_succ, HQ.out]; exact HRk.out), HGk, HBk⟩
          case measure => simp [intOf]; omega
    · obtain rfl : j = 256 := by omega
      go_wp2
      go_ret
      refine ⟨_, rfl, ?_, HBj.out⟩
      have hrow := HRj.out.congr (g := fun t => .int .u8 ((Kec.gt (encB d p) t : Nat) : Int)) fun i hi => by
        unfold partB
        rw [Nat.mod_eq_of_lt HML.out, gt_encB d p i (by omega), HM.out]
      have hl : (encB d p).length = N := by rw [encB_len, HN.out]
      exact held_of_bytes hrow hl (encB_lt d p) (by omega) _
set_option maxHeartbeats 8000000 in
set_option maxRecDepth 100000 in
theorem rencode_full (d : Nat) (cs : Array Value) (p : Nat → Int) (w : World) (hP : IsP cs p) (hF : Fits p) (h1 : 1 ≤ d) (hfull : d = 12) :
    Calls Tryd.prog 20 #[.int .i64 d, .agg cs] w (Kec.Told (encB d p) w) := by
  have hd12 : d ≤ 12 := by omega
  obtain ⟨P, hPe⟩ : ∃ P, 2 ^ d = P := ⟨_, rfl⟩
  have hP1 : 1 ≤ P := by rw [← hPe]; exact Nat.two_pow_pos d
  have hP2 : P ≤ 4096 := by rw [← hPe]; exact pow_le hd12
  have hpk : (2 : Int) ^ d = (P : Int) := by rw [pow_int, hPe]
  have q0 : IntKind.i64.wrap (P : Int) = (P : Int) := by rw [IntKind.wrap_i64]; omega
  have HF := Lib.hid hF; have HP := Lib.hid hP; have HPE := Lib.hid hPe
  have HG := Lib.hid (row_of (heap_alloc_last w (.cells cs 26)) hP)
  have HB0 := Lib.hid ((Below.refl w.heap.size w).alloc (Nat.le_refl _) (.cells cs 26))
  have HS0 := Lib.hid (show (w.alloc (.cells cs 26)).heap.size = w.heap.size + 1 by simp)
  obtain ⟨N, hN⟩ : ∃ N, N = 32 * d := ⟨_, rfl⟩
  have hN5 : N ≤ 32 * d := by omega
  have hN6 : 32 * d ≤ N := by omega
  have eN : 32 * (d : Int) = (N : Int) := by omega
  have HN := Lib.hid hN
  obtain ⟨Z8, hZ8⟩ : ∃ Z8, madeCells #[Value.int .u8 0] N = Z8 := ⟨_, rfl⟩
  have hmk : ∀ W, (Instr.makeSlice 22 (.int .i64 N) (.int .i64 N)).run Tryd.prog W = .ok (.slice (some ⟨W.heap.size, 0, none⟩) N N) (W.alloc (.cells Z8 5)) := fun W => by
    rw [← hZ8]
    exact run_make_row' (P := Tryd.prog) 22 5 (.int .u8 0) 1 Tryd.underlying22 (by kernel_rfl) rfl .i64 .i64 N (by omega) (by omega) W
  have hrow := World.rowIs_made (w.alloc (.cells cs 26)) (.int .u8 0) N 5
  rw [hZ8] at hrow
  obtain ⟨M, hM⟩ : ∃ M, num d (fun i => brv d (p i)) 256 = M := ⟨_, rfl⟩
  have HM := Lib.hid hM
  have hml : M < 2 ^ (d * 256) := by rw [← hM]; exact num_lt 256 fun i _ => brv_lt d (p i)
  have HML := Lib.hid hml
  have HDIG : Hid (∀ i, i < 256 → grp d M i = brv d (p i)) := Lib.hid fun i hi => by rw [← hM]; exact num_dig (fun i => brv_lt d (p i)) 256 i hi
  have HR0 : Hid (((w.alloc (.cells cs 26)).alloc (.cells Z8 5)).rowIs (w.alloc (.cells cs 26)).heap.size 5 N (partB M 0)) := Lib.hid (hrow.congr fun i _ => by unfold partB; rw [part_none]; rfl)
  have HB1 := Lib.hid (HB0.out.alloc HB0.out.size (.cells Z8 5))
  have HG1 := Lib.hid (HG.out.alloc (.cells Z8 5))
  have HD := Lib.hid (hfull)
  have hdeq : ((d : Int) == 12) = true := by rw [beq_iff_eq]; omega
  have hd13 : ¬ (12 < (d : Int)) := by omega
  clear hP hF hPe hN hZ8 hrow hM hml hfull
  go_enter Tryd.func20, Tryd.ntmps20
  go_wp2_with fail
  rw [show decide ((d : Int) < 1) = false from decide_eq_false (by omega)]
  rw [HS0.out] at HR0
  obtain ⟨w1, hw1⟩ : ∃ w1, (w.alloc (.cells cs 26)).alloc (.cells Z8 5) = w1 := ⟨_, rfl⟩
  rw [hw1] at HR0 HB1 HG1
  rw [hw1]
  clear hw1 hmk
  go_loopw [6] (fun i W => ∃ j : Nat, j ≤ 256 ∧ i = .int .i64 j ∧ Hid (W.rowIs (w.heap.size + 1) 5 N (partB M (d * j))) ∧ Hid (W.rowIs w.heap.size 26 256 (ints p)) ∧ Hid (Below w.heap.size w W)) (fun i _ => 256 - (intOf i).toNat)
  case atStart => exact ⟨0, by omega, rfl, HR0, HG1, HB1⟩
  case round =>
    obtain ⟨j, hj, rfl, HRj, HGj, HBj⟩ := hrel
    by_cases hlt : j < 256
    · have cj := HGj.out.cell hlt
      unfold ints at cj
      have hfj := HF.out j hlt
      obtain ⟨pj, hpj⟩ : ∃ z, p j = z := ⟨_, rfl⟩
      rw [hpj] at cj hfj
      have HX : Hid (grp d M j = brv d pj) := Lib.hid (by rw [HDIG.out j hlt, hpj])
      have hbl := brv_lt d pj
      rw [HPE.out] at hbl
      obtain ⟨x, hx⟩ : ∃ x, brv d pj = x := ⟨_, rfl⟩
      rw [hx] at HX hbl
      have HXE := Lib.hid hx
      have hjd : d * j + d ≤ d * 256 := by
        have := Nat.mul_le_mul_left d (show j + 1 ≤ 256 by omega)
        rw [Nat.mul_succ] at this; exact this
      have ejd : (j : Int) * (d : Int) = ((d * j : Nat) : Int) := by rw [Int.natCast_mul, Int.mul_comm]
      obtain ⟨q, hq⟩ : ∃ q, d * j = q := ⟨_, rfl⟩
      rw [hq] at hjd ejd
      have HQ := Lib.hid hq
      have HL1 := Lib.hid (rmod_two pj d P wr.drew HPE.out hd12 hfj.1 hfj.2)
      clear hpj hx hq
      go_wp2
      refine wp_region_still_tail 6 (by kernel_rfl) (by kernel_rfl) ?_
      simp only [List.take_succ_cons, List.take_zero, List.drop_succ_cons, List.drop_zero]
      repeat still_step
      still_call HL1.out
      refine wpStill_nil ?_
      change wpList _ _ _ _ _ wr.drew
      have HRd := Lib.hid HRj.out.drew; have HGd := Lib.hid HGj.out.drew; have HBd := Lib.hid (Below.drew HBj.out)
      have cj' := HGd.out.cell hlt
      clear cj'
      have HL2 := Lib.hid (rmod_q pj wr.drew hfj.1 hfj.2)
      have hr2 : rq pj = x := by rw [← HXE.out]; unfold brv; rw [if_pos HD.out]
      have HR2 := Lib.hid hr2
      clear hr2
      have cj2 : wr.drew.cell? ⟨w.heap.size, j, none⟩ = some (.int .i64 pj) := cj
      go_wp2_with fail
      refine HL2.out.mono ?_
      rintro e' w' ⟨rfl, hw⟩
      subst hw
      rw [HR2.out]
      go_wp2_with fail
      try rw [show decide ((j : Int) < 256) = true from decide_eq_true (by omega)]
      have hxb : x < 2 ^ 12 := by omega
      go_loopw [8] (fun i W => ∃ k : Nat, k ≤ d ∧ i = .int .i64 k ∧ Hid (W.rowIs (w.heap.size + 1) 5 N (partB M (q + k))) ∧ Hid (W.rowIs w.heap.size 26 256 (ints p)) ∧ Hid (Below w.heap.size w W)) (fun i _ => d - (intOf i).toNat)
      case atStart => exact ⟨0, by omega, rfl, Lib.hid (by rw [Nat.add_zero, ← HQ.out]; exact HRd.out), HGd, HBd⟩
      case round =>
        obtain ⟨k, hk, rfl, HRk, HGk, HBk⟩ := hrel
        by_cases hkd : k < d
        · obtain ⟨a, hae⟩ : ∃ a, q + k = a := ⟨_, rfl⟩
          have ea : (q : Int) + (k : Int) = (a : Int) := by omega
          have ha8 : a < 8 * N := by omega
          rw [hae] at HRk
          obtain ⟨B, hB⟩ : ∃ B, a / 8 = B := ⟨_, rfl⟩
          obtain ⟨r, hr⟩ : ∃ r, a % 8 = r := ⟨_, rfl⟩
          have hBN : B < N := by omega
          have hr8 : r < 8 := by omega
          have eB : (a : Int) / 8 = (B : Int) := by omega
          have eB2 : IntKind.i64.wrap ((a : Int).tdiv 8) = (B : Int) := by rw [Int.tdiv_eq_ediv_of_nonneg (by omega), IntKind.wrap_i64]; omega
          have wB : IntKind.i64.wrap (B : Int) = (B : Int) := by rw [IntKind.wrap_i64]; omega
          have wr0 : IntKind.i64.wrap (r : Int) = (r : Int) := by rw [IntKind.wrap_i64]; omega
          have er2 : (a : Int).tmod 8 = (r : Int) := by rw [Int.tmod_eq_emod_of_nonneg (by omega)]; omega
          have er : (a : Int) % 8 = (r : Int) := by omega
          have cB := HRk.out.cell hBN
          have fB := HRk.out.frozen B
          unfold partB at cB
          have hO := part_lt M a
          rw [← part_byte, hB, hr] at hO
          obtain ⟨O, hOe⟩ : ∃ O, grp 8 (M % 2 ^ a) B = O := ⟨_, rfl⟩
          rw [hOe] at cB hO
          have hbit : bt x k = bt M a := by
            have := bt_grp M d j k hkd
            rw [HX.out, HQ.out, hae] at this
            exact this
          have hb2 := bt_lt x k
          have hsh := shr_nat x k
          obtain ⟨y, hy⟩ : ∃ y, x / 2 ^ k = y := ⟨_, rfl⟩
          rw [hy] at hsh
          have hand := and_one y
          have hbt : bt x k = y % 2 := by unfold bt; rw [hy]
          obtain ⟨b, hbe⟩ : ∃ b, y % 2 = b := ⟨_, rfl⟩
          rw [hbe] at hand hbt
          rw [hbt] at hb2
          have wb : IntKind.i64.wrap (b : Int) = (b : Int) := by rw [IntKind.wrap_i64]; omega
          have hu1 : IntKind.u8.wrap (b : Int) = (b : Int) := by rw [IntKind.wrap_u8]; omega
          obtain ⟨g1, g2⟩ := u8_shl b r hb2 hr8
          have hu2 : IntKind.u8.wrap ((b : Int) * 2 ^ r) = (b : Int) * 2 ^ r := by rw [IntKind.wrap_u8]; omega
          have hor := u8_or_part b hO hr8 hb2
          obtain ⟨V, hV⟩ : ∃ V, O + b * 2 ^ r = V := ⟨_, rfl⟩
          rw [hV] at hor
          have HV : Hid (((V : Nat) : Int) = ((grp 8 (M % 2 ^ a) (a / 8) + bt M a * 2 ^ (a % 8) : Nat) : Int)) := Lib.hid (by rw [hB, hr, hOe, ← hbit, hbt, hV])
          have HBE := Lib.hid hB; have HAE := Lib.hid hae
          clear hae hB hr hOe hbit hy hbt hbe hV hO
          go_wp2
          have HRz := Lib.hid HRk.out.drew; have HGz := Lib.hid HGk.out.drew; have HBz := Lib.hid (Below.drew HBk.out)
          refine wp_region_still_tail 18 (by kernel_rfl) (by kernel_rfl) ?_
          simp only [List.take_succ_cons, List.take_zero, List.drop_succ_cons, List.drop_zero]
          repeat still_step
          refine wpStill_nil ?_
          change wpList _ _ _ _ _ wr.drew
          have cBz := HRz.out.cell hBN; have fBz := HRz.out.frozen B
          go_wp2
          go_roundw
          case rel =>
            refine ⟨k + 1, by omega, by go_num, Lib.hid ?_, Lib.hid ?_, Lib.hid ?_⟩
            · have := partB_set HRz.out HV.out
              rw [HBE.out] at this
              rw [← Nat.add_assoc, HAE.out]
              exact this
            · exact HGz.out.setOther (a := ⟨w.heap.size + 1, B, none⟩) (by show w.heap.size ≠ w.heap.size + 1; omega) _
            · exact HBz.out.setCell (p := ⟨w.heap.size + 1, B, none⟩) (by show w.heap.size ≤ w.heap.size + 1; omega) _
          case measure => simp [intOf]; omega
        · obtain rfl : k = d := by omega
          go_wp2
          go_roundw
          case rel => exact ⟨j + 1, by omega, by go_num, Lib.hid (by rw [Nat.mul_succ, HQ.out]; exact HRk.out), HGk, HBk⟩
          case measure => simp [intOf]; omega
    · obtain rfl : j = 256 := by omega
      go_wp2
      go_ret
      refine ⟨_, rfl, ?_, HBj.out⟩
      have hrow := HRj.out.congr (g := fun t => .int .u8 ((Kec.gt (encB d p) t : Nat) : Int)) fun i hi => by
        unfold partB
        rw [Nat.mod_eq_of_lt HML.out, gt_encB d p i (by omega), HM.out]
      have hl : (encB d p).length = N := by rw [encB_len, HN.out]
      exact held_of_bytes hrow hl (encB_lt d p) (by omega) _
set_option maxHeartbeats 2000000 in
set_option maxRecDepth 100000 in
theorem rencode_lo (d : Int) (cs : Array Value) (w : World) (h : d < 1) :
    Calls Tryd.prog 20 #[.int .i64 d, .agg cs] w (Kec.Told [] w) := by
  have HB0 := Lib.hid ((Below.refl w.heap.size w).alloc (Nat.le_refl _) (.cells cs 26))
  go_enter Tryd.func20, Tryd.ntmps20
  go_wp2
  go_ret
  exact ⟨_, rfl, Kec.Held.none _ _, HB0.out⟩
set_option maxHeartbeats 2000000 in
set_option maxRecDepth 100000 in
theorem rencode_hi (d : Int) (cs : Array Value) (w : World) (h1 : ¬ d < 1) (h : 12 < d) :
    Calls Tryd.prog 20 #[.int .i64 d, .agg cs] w (Kec.Told [] w) := by
  have HB0 := Lib.hid ((Below.refl w.heap.size w).alloc (Nat.le_refl _) (.cells cs 26))
  go_enter Tryd.func20, Tryd.ntmps20
  go_wp2
  go_ret
  exact ⟨_, rfl, Kec.Held.none _ _, HB0.out⟩
theorem rencode_told (d : Int) (cs : Array Value) (p : Nat → Int) (w : World) (hP : IsP cs p) (hF : Fits p) :
    Calls Tryd.prog 20 #[.int .i64 d, .agg cs] w (Kec.Told (encD d p) w) := by
  unfold encD
  by_cases h1 : d < 1
  · rw [if_neg (by omega)]; exact rencode_lo d cs w h1
  · by_cases h2 : 12 < d
    · rw [if_neg (by omega)]; exact rencode_hi d cs w h1 h2
    · rw [if_pos (by omega)]
      obtain ⟨k, rfl⟩ : ∃ k : Nat, d = k := ⟨d.toNat, by omega⟩
      by_cases hf : k = 12
      · exact rencode_full k cs p w hP hF (by omega) hf
      · exact rencode_ok k cs p w hP hF (by omega) (by omega)
end Go.Proofs.YtdkhiooiakdecaaDoorR.Kp
