/- The document's own: block. -/
import Derived.Test.YtfcnhendebjjeaaDoorShaRefA
namespace Go.Proofs.YtfcnhendebjjeaaDoor.Sha
set_option linter.all false
open Go.RowKit
attribute [local go_sem ↓] Go.wp_at_zero Go.wp_at_succ

theorem rturned_7 (x : Nat) (w : World) (hx : x < 4294967296) : Calls Tryd.prog 38 #[.int .u32 x, .int .i64 7] w fun e w' => e = .returned (.int .u32 (rotr x 7 : Nat)) ∧ ∃ n, w' = w.drewN n := rturned_any x 7 w hx (by omega) (by omega)
theorem rturned_18 (x : Nat) (w : World) (hx : x < 4294967296) : Calls Tryd.prog 38 #[.int .u32 x, .int .i64 18] w fun e w' => e = .returned (.int .u32 (rotr x 18 : Nat)) ∧ ∃ n, w' = w.drewN n := rturned_any x 18 w hx (by omega) (by omega)
theorem rturned_17 (x : Nat) (w : World) (hx : x < 4294967296) : Calls Tryd.prog 38 #[.int .u32 x, .int .i64 17] w fun e w' => e = .returned (.int .u32 (rotr x 17 : Nat)) ∧ ∃ n, w' = w.drewN n := rturned_any x 17 w hx (by omega) (by omega)
theorem rturned_19 (x : Nat) (w : World) (hx : x < 4294967296) : Calls Tryd.prog 38 #[.int .u32 x, .int .i64 19] w fun e w' => e = .returned (.int .u32 (rotr x 19 : Nat)) ∧ ∃ n, w' = w.drewN n := rturned_any x 19 w hx (by omega) (by omega)
theorem rturned_6 (x : Nat) (w : World) (hx : x < 4294967296) : Calls Tryd.prog 38 #[.int .u32 x, .int .i64 6] w fun e w' => e = .returned (.int .u32 (rotr x 6 : Nat)) ∧ ∃ n, w' = w.drewN n := rturned_any x 6 w hx (by omega) (by omega)
theorem rturned_11 (x : Nat) (w : World) (hx : x < 4294967296) : Calls Tryd.prog 38 #[.int .u32 x, .int .i64 11] w fun e w' => e = .returned (.int .u32 (rotr x 11 : Nat)) ∧ ∃ n, w' = w.drewN n := rturned_any x 11 w hx (by omega) (by omega)
theorem rturned_25 (x : Nat) (w : World) (hx : x < 4294967296) : Calls Tryd.prog 38 #[.int .u32 x, .int .i64 25] w fun e w' => e = .returned (.int .u32 (rotr x 25 : Nat)) ∧ ∃ n, w' = w.drewN n := rturned_any x 25 w hx (by omega) (by omega)
theorem rturned_2 (x : Nat) (w : World) (hx : x < 4294967296) : Calls Tryd.prog 38 #[.int .u32 x, .int .i64 2] w fun e w' => e = .returned (.int .u32 (rotr x 2 : Nat)) ∧ ∃ n, w' = w.drewN n := rturned_any x 2 w hx (by omega) (by omega)
theorem rturned_13 (x : Nat) (w : World) (hx : x < 4294967296) : Calls Tryd.prog 38 #[.int .u32 x, .int .i64 13] w fun e w' => e = .returned (.int .u32 (rotr x 13 : Nat)) ∧ ∃ n, w' = w.drewN n := rturned_any x 13 w hx (by omega) (by omega)
theorem rturned_22 (x : Nat) (w : World) (hx : x < 4294967296) : Calls Tryd.prog 38 #[.int .u32 x, .int .i64 22] w fun e w' => e = .returned (.int .u32 (rotr x 22 : Nat)) ∧ ∃ n, w' = w.drewN n := rturned_any x 22 w hx (by omega) (by omega)

theorem rword_bits {b : List Nat} (hb : ∀ j, gt b j < 256) (i : Nat) : bits .or .u32 (bits .or .u32 (bits .or .u32 (((gt b (4 * i) : Nat) : Int) * 16777216 % 4294967296) (((gt b (4 * i + 1) : Nat) : Int) * 65536 % 4294967296)) (((gt b (4 * i + 2) : Nat) : Int) * 256 % 4294967296)) ((gt b (4 * i + 3) : Nat) : Int) = ((wordOf b i : Nat) : Int) := by
  have h3 := hb (4 * i + 3)
  have e1 : (((gt b (4 * i) : Nat) : Int) * 16777216 % 4294967296) = ((gt b (4 * i) * 16777216 % 4294967296 : Nat) : Int) := by simp
  have e2 : (((gt b (4 * i + 1) : Nat) : Int) * 65536 % 4294967296) = ((gt b (4 * i + 1) * 65536 % 4294967296 : Nat) : Int) := by simp
  have e3 : (((gt b (4 * i + 2) : Nat) : Int) * 256 % 4294967296) = ((gt b (4 * i + 2) * 256 % 4294967296 : Nat) : Int) := by simp
  rw [e1, e2, e3, u32_or_nat _ _ (Nat.mod_lt _ (by omega)) (Nat.mod_lt _ (by omega)), u32_or_nat _ _ (or_lt (Nat.mod_lt _ (by omega)) (Nat.mod_lt _ (by omega))) (Nat.mod_lt _ (by omega)), u32_or_nat _ _ (or_lt (or_lt (Nat.mod_lt _ (by omega)) (Nat.mod_lt _ (by omega))) (Nat.mod_lt _ (by omega))) (by omega)]
  rfl
/-- what lies where while a block is reckoned -/
structure RB (w W : World) (gk gw : Nat) (s ws : List Nat) : Prop where
  st : W.rowIs w.heap.size 49 8 (wordRow .u32 s)
  res : W.rowIs (w.heap.size + 1) 49 8 (wordRow .u32 (tab 8 fun _ => 0))
  ks : W.rowIs gk 55 64 (wordRow .u32 consT)
  wd : W.rowIs gw 55 64 (wordRow .u32 ws)
  bel : Below w.heap.size w W
section
variable {w W : World} {gk gw : Nat} {s ws : List Nat}
theorem RB.drew (h : RB w W gk gw s ws) : RB w W.drew gk gw s ws := ⟨h.st, h.res, h.ks, h.wd, h.bel.drew⟩
theorem RB.drewN (h : RB w W gk gw s ws) (n : Nat) : RB w (W.drewN n) gk gw s ws := ⟨h.st, h.res, h.ks, h.wd, ⟨h.bel.os, h.bel.tape, h.bel.output, h.bel.size, h.bel.block⟩⟩
theorem RB.setW (h : RB w W gk gw s ws) (h1 : w.heap.size + 2 ≤ gk) (h2 : gk < gw) (hl : ws.length = 64) (i v : Nat) (hi : i < 64) {j : Nat} (hj : j = i) {z : Int} (hz : z = (v : Int)) : RB w (W.setCell ⟨gw, j, none⟩ (.int .u32 z)) gk gw s (ws.set i v) :=
  ⟨h.st.setOther (by show w.heap.size ≠ gw; omega) _, h.res.setOther (by show w.heap.size + 1 ≠ gw; omega) _, h.ks.setOther (by show gk ≠ gw; omega) _, row_setZ h.wd hl i v hi hj hz, h.bel.setCell (by show w.heap.size ≤ gw; omega) _⟩
theorem RB.alloc (h : RB w W gk gw s ws) (o : Obj) : RB w (W.alloc o) gk gw s ws := ⟨h.st.alloc o, h.res.alloc o, h.ks.alloc o, h.wd.alloc o, h.bel.alloc h.bel.size o⟩
theorem RB.setSt (h : RB w W gk gw s ws) (h1 : w.heap.size + 2 ≤ gk) (h2 : gk < gw) (hl : s.length = 8) (i v : Nat) (hi : i < 8) {j : Nat} (hj : j = i) {z : Int} (hz : z = (v : Int)) : RB w (W.setCell ⟨w.heap.size, j, none⟩ (.int .u32 z)) gk gw (s.set i v) ws :=
  ⟨row_setZ h.st hl i v hi hj hz, h.res.setOther (by show w.heap.size + 1 ≠ w.heap.size; omega) _, h.ks.setOther (by show gk ≠ w.heap.size; omega) _, h.wd.setOther (by show gw ≠ w.heap.size; omega) _, h.bel.setCell (Nat.le_refl _) _⟩
theorem RB.setRow (h : RB w W gk gw s ws) {g : Nat} (h1 : w.heap.size + 2 ≤ gk) (h2 : gk < gw) (hg : gw < g) (cs : Array Value) : RB w (W.setRow g cs) gk gw s ws :=
  ⟨h.st.of_block (setRow_other _ _ _ _ (by omega)), h.res.of_block (setRow_other _ _ _ _ (by omega)), h.ks.of_block (setRow_other _ _ _ _ (by omega)), h.wd.of_block (setRow_other _ _ _ _ (by omega)), below_setRow h.bel (by omega) _⟩
end

set_option maxHeartbeats 8000000 in
set_option maxRecDepth 100000 in
theorem rblock_to (s b : List Nat) (ad : Addr) (c : Nat) (w : World) (ws v64 out : List Nat) (hO : Ok 4294967296 8 s) (hB : Ok 256 64 b) (had : ad.block < w.heap.size) (hc : ∀ j, j < 64 → w.cell? (ad.add j) = some (.int .u8 (gt b j : Nat)))
    (HW : Hid (Unit → moreTo (firstTo b 16) 48 = ws)) (HV : Hid (Unit → roundsTo ws s 64 = v64)) (HOUT : Hid (Unit → sumTo s v64 8 = out)) :
    Calls Tryd.prog 33 #[.agg (numsOf .u32 s), .slice (some ad) 64 c] w fun e w' => e = .returned (.agg (numsOf .u32 out)) ∧ Below w.heap.size w w' := by
  have HO := Lib.hid hO; have HOB := Lib.hid hB; have HC := Lib.hid hc; clear hO hB hc
  have HSS := Lib.hid (show (numsOf .u32 s).size = 8 by rw [numsOf_size]; exact HO.out.1)
  go_enter Tryd.func33, Tryd.ntmps33
  go_wp2_with fail
  refine (rconsts_any _).mono ?_
  rintro e' w1 ⟨rfl, hB1⟩
  have e8 : (#[Value.int IntKind.u32 0, Value.int IntKind.u32 0, Value.int IntKind.u32 0, Value.int IntKind.u32 0, Value.int IntKind.u32 0, Value.int IntKind.u32 0, Value.int IntKind.u32 0, Value.int IntKind.u32 0] : Array Value) = numsOf .u32 (tab 8 fun _ => 0) := by rfl
  rw [e8] at hB1
  have HR0 := Lib.hid (rowIs_words (heap_alloc_last w (.cells (numsOf .u32 s) 49)) HO.out.1)
  have HZ0 := Lib.hid (rowIs_words (heap_alloc_last (w.alloc (.cells (numsOf .u32 s) 49)) (.cells (numsOf .u32 (tab 8 fun _ => 0)) 49)) (tab_len 8 _))
  have e1 : (w.alloc (.cells (numsOf .u32 s) 49)).heap.size = w.heap.size + 1 := by simp
  have e2 : ((w.alloc (.cells (numsOf .u32 s) 49)).alloc (.cells (numsOf .u32 (tab 8 fun _ => 0)) 49)).heap.size = w.heap.size + 2 := by simp
  rw [e1] at HZ0
  have hB1' : Below (w.heap.size + 2) ((w.alloc (.cells (numsOf .u32 s) 49)).alloc (.cells (numsOf .u32 (tab 8 fun _ => 0)) 49)) w1 := e2 ▸ hB1
  have HS1 : Hid (w1.rowIs w.heap.size 49 8 (wordRow .u32 s)) := Lib.hid ((HR0.out.alloc _).of_block (hB1'.block _ (by omega)))
  have HZ1 : Hid (w1.rowIs (w.heap.size + 1) 49 8 (wordRow .u32 (tab 8 fun _ => 0))) := Lib.hid (HZ0.out.of_block (hB1'.block _ (by omega)))
  have HB1 : Hid (Below w.heap.size w w1) := Lib.hid ((((Below.refl _ _).alloc (Nat.le_refl _) _).alloc (by simp) _).trans (hB1'.mono (by omega)))
  have hs1 : w.heap.size + 2 ≤ w1.heap.size := by have := hB1'.size; omega
  clear hB1 hB1' e1 e2 e8 HR0 HZ0
  generalize hm : consT = cT at *
  have hl : cT.length = 64 := by rw [← hm]; rfl
  have hi : (Tryd.prog.info? 55).map (·.size) = some (numsOf .u32 cT).size := by rw [numsOf_size, hl]; kernel_rfl
  have HZM := Lib.hid (show (numsOf .u32 z64).size = (numsOf .u32 cT).size by rw [numsOf_size, numsOf_size, z64_len, hl]); have HI := Lib.hid hi; have HM := Lib.hid (fun _ : Unit => hm); clear hi hm
  go_wp2_with (refine wpList_store_row rfl 55 (.tmp 5) (.tmp 18) rfl w1.heap.size (numsOf .u32 cT) rfl rfl 55 (numsOf .u32 z64) (heap_alloc_last w1 _) HI.out HZM.out (numsOf_one _ _) ?_; rw [World.setRow_alloc_new])
  have HRB : Hid (RB w ((w1.alloc (.cells (numsOf .u32 cT) 55)).alloc (.cells (numsOf .u32 z64) 55)) w1.heap.size (w1.heap.size + 1) s (firstTo b 0)) := Lib.hid (by
    have e : (w1.alloc (.cells (numsOf .u32 cT) 55)).heap.size = w1.heap.size + 1 := by simp
    have r := rowIs_words (heap_alloc_last (w1.alloc (.cells (numsOf .u32 cT) 55)) (.cells (numsOf .u32 z64) 55)) z64_len
    rw [e] at r
    refine ⟨(HS1.out.alloc _).alloc _, (HZ1.out.alloc _).alloc _, ?_, ?_, (HB1.out.alloc HB1.out.size _).alloc (by simp; have := HB1.out.size; omega) _⟩
    · rw [HM.out ()]; exact (rowIs_words (heap_alloc_last w1 _) hl).alloc _
    · rw [firstTo_zero]; exact r)
  change Code.wp _ _ _ _ ((w1.alloc (.cells (numsOf .u32 cT) 55)).alloc (.cells (numsOf .u32 z64) 55))
  generalize (w1.alloc (.cells (numsOf .u32 cT) 55)).alloc (.cells (numsOf .u32 z64) 55) = W0 at *
  generalize w1.heap.size = gk at *
  obtain ⟨gw, hgw⟩ : ∃ gw, gw = gk + 1 := ⟨_, rfl⟩
  rw [← hgw] at HRB ⊢
  have hkw : gk < gw := by omega
  clear hgw HS1 HZ1 HB1 HZM HI hl
  go_loopw [7] (fun i W => ∃ k : Nat, k ≤ 16 ∧ i = .int .i64 k ∧ Hid (RB w W gk gw s (firstTo b k))) (fun i _ => 16 - (intOf i).toNat)
  case atStart => exact ⟨0, by omega, rfl, HRB⟩
  case round =>
    obtain ⟨k, hk, rfl, HR1⟩ := hrel
    by_cases hk16 : k < 16
    · obtain ⟨j0, l0, m0, p0⟩ : ∃ j : Nat, j = 4 * k ∧ j < 64 ∧ ((j : Nat) : Int) < 64 := ⟨4 * k, rfl, by omega, by omega⟩
      obtain ⟨j1, l1, m1, p1⟩ : ∃ j : Nat, j = 4 * k + 1 ∧ j < 64 ∧ ((j : Nat) : Int) < 64 := ⟨4 * k + 1, rfl, by omega, by omega⟩
      obtain ⟨j2, l2, m2, p2⟩ : ∃ j : Nat, j = 4 * k + 2 ∧ j < 64 ∧ ((j : Nat) : Int) < 64 := ⟨4 * k + 2, rfl, by omega, by omega⟩
      obtain ⟨j3, l3, m3, p3⟩ : ∃ j : Nat, j = 4 * k + 3 ∧ j < 64 ∧ ((j : Nat) : Int) < 64 := ⟨4 * k + 3, rfl, by omega, by omega⟩
      have hb := rword_bits HOB.out.2 k
      rw [← l3, ← l2, ← l1, ← l0] at hb
      have c0 : wr.cell? (ad.add j0) = some (.int .u8 (gt b j0 : Nat)) := by rw [HR1.out.bel.cell (by rw [add_block]; exact had)]; exact HC.out _ m0
      have c1 : wr.cell? (ad.add j1) = some (.int .u8 (gt b j1 : Nat)) := by rw [HR1.out.bel.cell (by rw [add_block]; exact had)]; exact HC.out _ m1
      have c2 : wr.cell? (ad.add j2) = some (.int .u8 (gt b j2 : Nat)) := by rw [HR1.out.bel.cell (by rw [add_block]; exact had)]; exact HC.out _ m2
      have c3 : wr.cell? (ad.add j3) = some (.int .u8 (gt b j3 : Nat)) := by rw [HR1.out.bel.cell (by rw [add_block]; exact had)]; exact HC.out _ m3
      have x0 : IntKind.i64.wrap (4 * (k : Int)) = (j0 : Int) := by rw [IntKind.wrap_i64]; omega
      have z0 : 4 * (k : Int) = (j0 : Int) := by omega
      have x1 : IntKind.i64.wrap ((j0 : Int) + 1) = (j1 : Int) := by rw [IntKind.wrap_i64]; omega
      have z1 : (j0 : Int) + 1 = (j1 : Int) := by omega
      have x2 : IntKind.i64.wrap ((j0 : Int) + 2) = (j2 : Int) := by rw [IntKind.wrap_i64]; omega
      have z2 : (j0 : Int) + 2 = (j2 : Int) := by omega
      have x3 : IntKind.i64.wrap ((j0 : Int) + 3) = (j3 : Int) := by rw [IntKind.wrap_i64]; omega
      have z3 : (j0 : Int) + 3 = (j3 : Int) := by omega
      have q0 : ((gt b j0 : Nat) : Int) % 4294967296 = ((gt b j0 : Nat) : Int) := by have := HOB.out.2 j0; omega
      have q1 : ((gt b j1 : Nat) : Int) % 4294967296 = ((gt b j1 : Nat) : Int) := by have := HOB.out.2 j1; omega
      have q2 : ((gt b j2 : Nat) : Int) % 4294967296 = ((gt b j2 : Nat) : Int) := by have := HOB.out.2 j2; omega
      have q3 : ((gt b j3 : Nat) : Int) % 4294967296 = ((gt b j3 : Nat) : Int) := by have := HOB.out.2 j3; omega
      clear l0 l1 l2 l3
      generalize gt b j0 = b0 at *
      generalize gt b j1 = b1 at *
      generalize gt b j2 = b2 at *
      generalize gt b j3 = b3 at *
      have d0 := HR1.out.wd.cell (i := k) (by omega)
      have d1 := HR1.out.wd.frozen k
      have HOF := Lib.hid (ok_firstTo HOB.out.2 k)
      have HSU := Lib.hid (fun _ : Unit => firstTo_succ b k (by omega))
      generalize firstTo b k = fs at *
      generalize wordOf b k = wk at *
      unfold wordRow at d0
      go_wp2
      go_region
      go_wp2
      go_roundw
      case rel => exact ⟨k + 1, by omega, by go_num, Lib.hid (by rw [← HSU.out ()]; exact (HR1.out.setW (by omega) hkw HOF.out.1 k wk (by omega) rfl rfl).drew)⟩
      case measure => simp [intOf]; omega
    · obtain rfl : k = 16 := by omega
      clear hk hk16
      have hw0 : Unit → moreTo (firstTo b 16) 48 = ws := HW.out
      have hof := ok_firstTo HOB.out.2 16
      generalize firstTo b 16 = p at *
      have HW0 := Lib.hid hw0; have HOF := Lib.hid hof; clear hw0 hof HW
      rw [show ((16 : Nat) : Int) = 16 from rfl]
      go_wp2
      go_loopw [8] (fun i W => ∃ k j : Nat, j ≤ 48 ∧ j + 16 ≤ k ∧ k ≤ j + 16 ∧ i = .int .i64 (k : Nat) ∧ Hid (RB w W gk gw s (moreTo p j))) (fun i _ => 64 - (intOf i).toNat)
      case atStart => exact ⟨16, 0, by omega, by omega, by omega, rfl, HR1⟩
      case round =>
        obtain ⟨k, j, hj, hjk, hkj, rfl, HR2⟩ := hrel
        by_cases hk64 : k < 64
        · have hok := ok_moreTo HOF.out j hj
          have HSU : Hid (Unit → moreTo p (j + 1) = (moreTo p j).set (j + 16) (nextw (moreTo p j) j)) := Lib.hid fun _ => rfl
          generalize moreTo p j = us at *
          obtain ⟨k16, e16, f16, l16, y16⟩ : ∃ d : Nat, d + 16 ≤ k ∧ k ≤ d + 16 ∧ d < 64 ∧ ((d : Nat) : Int) < 64 := ⟨k - 16, by omega, by omega, by omega, by omega⟩
          obtain ⟨k15, e15, f15, l15, y15⟩ : ∃ d : Nat, d + 15 ≤ k ∧ k ≤ d + 15 ∧ d < 64 ∧ ((d : Nat) : Int) < 64 := ⟨k - 15, by omega, by omega, by omega, by omega⟩
          obtain ⟨k7, e7, f7, l7, y7⟩ : ∃ d : Nat, d + 7 ≤ k ∧ k ≤ d + 7 ∧ d < 64 ∧ ((d : Nat) : Int) < 64 := ⟨k - 7, by omega, by omega, by omega, by omega⟩
          obtain ⟨k2, e2, f2, l2, y2⟩ : ∃ d : Nat, d + 2 ≤ k ∧ k ≤ d + 2 ∧ d < 64 ∧ ((d : Nat) : Int) < 64 := ⟨k - 2, by omega, by omega, by omega, by omega⟩
          have x16 : IntKind.i64.wrap ((k : Int) - 16) = (k16 : Int) := wsub k 16 k16 e16 f16 (by omega)
          have d16 := HR2.out.wd.cell (i := k16) l16
          have x15 : IntKind.i64.wrap ((k : Int) - 15) = (k15 : Int) := wsub k 15 k15 e15 f15 (by omega)
          have d15 := HR2.out.wd.cell (i := k15) l15
          have x7 : IntKind.i64.wrap ((k : Int) - 7) = (k7 : Int) := wsub k 7 k7 e7 f7 (by omega)
          have d7 := HR2.out.wd.cell (i := k7) l7
          have x2 : IntKind.i64.wrap ((k : Int) - 2) = (k2 : Int) := wsub k 2 k2 e2 f2 (by omega)
          have d2 := HR2.out.wd.cell (i := k2) l2
          have y0 : (k : Int) < 64 := by omega
          unfold wordRow at d16 d15 d7 d2
          have b0 := sig0_bits (hok.2 k15)
          have b1 := sig1_bits (hok.2 k2)
          have a1 := add_wrap (gt us k16) (sig0 (gt us k15))
          have a2 := add_wrap (add (gt us k16) (sig0 (gt us k15))) (gt us k7)
          have a3 := add_wrap (add (add (gt us k16) (sig0 (gt us k15))) (gt us k7)) (sig1 (gt us k2))
          have HX15 := Lib.hid (hok.2 k15); have HX2 := Lib.hid (hok.2 k2); have HOK := Lib.hid hok
          have HNX : Hid (Unit → nextw us j = add (add (add (gt us k16) (sig0 (gt us k15))) (gt us k7)) (sig1 (gt us k2))) := Lib.hid fun _ => by
            unfold nextw
            rw [show k16 = j by omega, show k15 = j + 1 by omega, show k7 = j + 9 by omega, show k2 = j + 14 by omega]
          clear hok
          go_wp2
          refine region_calm ?_
          refine wp_region_any (by kernel_rfl) ?_
          change wpAny _ _ _ _ _ _ _ (World.drew _)
          replace HR2 := Lib.hid HR2.out.drew
          clear d16 d15 d7 d2
          generalize wr.drew = wd at *
          have S0 : wd.cell? ⟨gw, k16, none⟩ = some (.int .u32 (gt us k16 : Nat)) ∧ wd.cell? ⟨gw, k7, none⟩ = some (.int .u32 (gt us k7 : Nat)) := ⟨HR2.out.wd.cell l16, HR2.out.wd.cell l7⟩
          refine wpAny_of_held (S := fun w' => w'.cell? ⟨gw, k16, none⟩ = some (.int .u32 (gt us k16 : Nat)) ∧ w'.cell? ⟨gw, k7, none⟩ = some (.int .u32 (gt us k7 : Nat))) _ _ _ _ ?_
          generalize gt us k15 = vx at *
          generalize gt us k2 = vy at *
          refine wpAnyH_take (i := 0) (v := ?v0b) rfl (by kernel_rfl) (by kernel_rfl) (by kernel_rfl) (fun _ _ _ h => h) (Or.inl ⟨by rfl, ?y0b⟩) S0 ?r0b
          case y0b => (intro w hSw; clear hSw; go_simp; try with_reducible rfl)
          simp only [List.getElem_toArray, List.getElem_cons_succ, List.getElem_cons_zero, Act.put, List.setIfInBounds_toArray, List.set_cons_zero, List.set_cons_succ]
          refine wpAnyH_take (i := 1) (v := ?v1b) rfl (by kernel_rfl) (by kernel_rfl) (by kernel_rfl) (fun _ _ _ h => h) (Or.inl ⟨by rfl, ?y1b⟩) S0 ?r1b
          case y1b => (intro w hSw; clear hSw; go_simp; try with_reducible rfl)
          simp only [List.getElem_toArray, List.getElem_cons_succ, List.getElem_cons_zero, Act.put, List.setIfInBounds_toArray, List.set_cons_zero, List.set_cons_succ]
          refine wpAnyH_take (i := 2) (v := ?v2b) rfl (by kernel_rfl) (by kernel_rfl) (by kernel_rfl) (fun _ _ _ h => h) (Or.inl ⟨by rfl, ?y2b⟩) S0 ?r2b
          case y2b => (intro w hSw; clear hSw; go_simp; try with_reducible rfl)
          simp only [List.getElem_toArray, List.getElem_cons_succ, List.getElem_cons_zero, Act.put, List.setIfInBounds_toArray, List.set_cons_zero, List.set_cons_succ]
          refine wpAnyH_take (i := 3) (v := ?v3b) rfl (by kernel_rfl) (by kernel_rfl) (by kernel_rfl) (fun _ _ _ h => h) (Or.inl ⟨by rfl, ?y3b⟩) S0 ?r3b
          case y3b => (intro w hSw; clear hSw; go_simp; try with_reducible rfl)
          simp only [List.getElem_toArray, List.getElem_cons_succ, List.getElem_cons_zero, Act.put, List.setIfInBounds_toArray, List.set_cons_zero, List.set_cons_succ]
          refine wpAnyH_take (i := 4) (v := ?v4b) rfl (by kernel_rfl) (by kernel_rfl) (by kernel_rfl) (fun _ _ _ h => h) (Or.inl ⟨by rfl, ?y4b⟩) S0 ?r4b
          case y4b => (intro w hSw; obtain ⟨hs1, hs2⟩ := hSw; go_simp; try with_reducible rfl)
          simp only [List.getElem_toArray, List.getElem_cons_succ, List.getElem_cons_zero, Act.put, List.setIfInBounds_toArray, List.set_cons_zero, List.set_cons_succ]
          refine wpAnyH_take (i := 5) (v := ?v5b) rfl (by kernel_rfl) (by kernel_rfl) (by kernel_rfl) (fun _ _ _ h => h) (Or.inl ⟨by rfl, ?y5b⟩) S0 ?r5b
          case y5b => (intro w hSw; clear hSw; go_simp; try with_reducible rfl)
          simp only [List.getElem_toArray, List.getElem_cons_succ, List.getElem_cons_zero, Act.put, List.setIfInBounds_toArray, List.set_cons_zero, List.set_cons_succ]
          refine wpAnyH_take (i := 7) (v := ?v7b) rfl (by kernel_rfl) (by kernel_rfl) (by kernel_rfl) (fun _ _ _ h => h) (Or.inl ⟨by rfl, ?y7b⟩) S0 ?r7b
          case y7b => (intro w hSw; clear hSw; go_simp; try with_reducible rfl)
          simp only [List.getElem_toArray, List.getElem_cons_succ, List.getElem_cons_zero, Act.put, List.setIfInBounds_toArray, List.set_cons_zero, List.set_cons_succ]
          refine wpAnyH_take (i := 10) (v := ?v10b) rfl (by kernel_rfl) (by kernel_rfl) (by kernel_rfl) (fun _ _ _ h => h) (Or.inl ⟨by rfl, ?y10b⟩) S0 ?r10b
          case y10b => (intro w hSw; clear hSw; go_simp; try with_reducible rfl)
          simp only [List.getElem_toArray, List.getElem_cons_succ, List.getElem_cons_zero, Act.put, List.setIfInBounds_toArray, List.set_cons_zero, List.set_cons_succ]
          refine wpAnyH_take (i := 11) (v := ?v11b) rfl (by kernel_rfl) (by kernel_rfl) (by kernel_rfl) (fun _ _ _ h => h) (Or.inl ⟨by rfl, ?y11b⟩) S0 ?r11b
          case y11b => (intro w hSw; clear hSw; go_simp; try with_reducible rfl)
          simp only [List.getElem_toArray, List.getElem_cons_succ, List.getElem_cons_zero, Act.put, List.setIfInBounds_toArray, List.set_cons_zero, List.set_cons_succ]
          refine wpAnyH_take (i := 14) (v := ?v14b) rfl (by kernel_rfl) (by kernel_rfl) (by kernel_rfl) (fun _ _ _ h => h) (Or.inl ⟨by rfl, ?y14b⟩) S0 ?r14b
          case y14b => (intro w hSw; clear hSw; go_simp; try with_reducible rfl)
          simp only [List.getElem_toArray, List.getElem_cons_succ, List.getElem_cons_zero, Act.put, List.setIfInBounds_toArray, List.set_cons_zero, List.set_cons_succ]
          refine wpAnyH_take (i := 15) (v := ?v15b) rfl (by kernel_rfl) (by kernel_rfl) (by kernel_rfl) (fun _ _ _ h => h) (Or.inl ⟨by rfl, ?y15b⟩) S0 ?r15b
          case y15b => (intro w hSw; clear hSw; go_simp; try with_reducible rfl)
          simp only [List.getElem_toArray, List.getElem_cons_succ, List.getElem_cons_zero, Act.put, List.setIfInBounds_toArray, List.set_cons_zero, List.set_cons_succ]
          refine wpAnyH_take (i := 16) (v := ?v16b) rfl (by kernel_rfl) (by kernel_rfl) (by kernel_rfl) (fun _ _ _ h => h) (Or.inl ⟨by rfl, ?y16b⟩) S0 ?r16b
          case y16b => (intro w hSw; clear hSw; go_simp; try with_reducible rfl)
          simp only [List.getElem_toArray, List.getElem_cons_succ, List.getElem_cons_zero, Act.put, List.setIfInBounds_toArray, List.set_cons_zero, List.set_cons_succ]
          refine wpAnyH_take (i := 17) (v := ?v17b) rfl (by kernel_rfl) (by kernel_rfl) (by kernel_rfl) (fun _ _ _ h => h) (Or.inl ⟨by rfl, ?y17b⟩) S0 ?r17b
          case y17b => (intro w hSw; obtain ⟨hs1, hs2⟩ := hSw; go_simp; try with_reducible rfl)
          simp only [List.getElem_toArray, List.getElem_cons_succ, List.getElem_cons_zero, Act.put, List.setIfInBounds_toArray, List.set_cons_zero, List.set_cons_succ]
          refine wpAnyH_take (i := 19) (v := ?v19b) rfl (by kernel_rfl) (by kernel_rfl) (by kernel_rfl) (fun _ _ _ h => h) (Or.inl ⟨by rfl, ?y19b⟩) S0 ?r19b
          case y19b => (intro w hSw; clear hSw; go_simp; try with_reducible rfl)
          simp only [List.getElem_toArray, List.getElem_cons_succ, List.getElem_cons_zero, Act.put, List.setIfInBounds_toArray, List.set_cons_zero, List.set_cons_succ]
          refine wpAnyH_take (i := 21) (v := ?v21b) rfl (by kernel_rfl) (by kernel_rfl) (by kernel_rfl) (fun _ _ _ h => h) (Or.inl ⟨by rfl, ?y21b⟩) S0 ?r21b
          case y21b => (intro w hSw; clear hSw; go_simp; try with_reducible rfl)
          simp only [List.getElem_toArray, List.getElem_cons_succ, List.getElem_cons_zero, Act.put, List.setIfInBounds_toArray, List.set_cons_zero, List.set_cons_succ]
          refine wpAnyH_take (i := 24) (v := ?v24b) rfl (by kernel_rfl) (by kernel_rfl) (by kernel_rfl) (fun _ _ _ h => h) (Or.inl ⟨by rfl, ?y24b⟩) S0 ?r24b
          case y24b => (intro w hSw; clear hSw; go_simp; try with_reducible rfl)
          simp only [List.getElem_toArray, List.getElem_cons_succ, List.getElem_cons_zero, Act.put, List.setIfInBounds_toArray, List.set_cons_zero, List.set_cons_succ]
          refine wpAnyH_take (i := 25) (v := ?v25b) rfl (by kernel_rfl) (by kernel_rfl) (by kernel_rfl) (fun _ _ _ h => h) (Or.inl ⟨by rfl, ?y25b⟩) S0 ?r25b
          case y25b => (intro w hSw; clear hSw; go_simp; try with_reducible rfl)
          simp only [List.getElem_toArray, List.getElem_cons_succ, List.getElem_cons_zero, Act.put, List.setIfInBounds_toArray, List.set_cons_zero, List.set_cons_succ]
          refine wpAnyH_ready (rs := [6]) (by kernel_rfl) (by simp) ?_
          refine AllReadyH.cons rfl (fun K hK => ?_) AllReadyH.nil
          simp only [List.getElem_toArray, List.getElem_cons_succ, List.getElem_cons_zero]
          go_simp
          refine (rturned_7 _ _ HX15.out).mono ?_
          rintro e' wz1 ⟨rfl, q, hq⟩
          have S1 : wz1.cell? ⟨gw, k16, none⟩ = some (.int .u32 (gt us k16 : Nat)) ∧ wz1.cell? ⟨gw, k7, none⟩ = some (.int .u32 (gt us k7 : Nat)) := by rw [hq]; exact S0
          replace HR2 := Lib.hid (show _ from hq ▸ HR2.out.drewN q)
          clear hq
          refine hK.out _ _ S1 (fun _ => ?_)
          clear hK K
          try simp only [List.getElem_toArray, List.getElem_cons_succ, List.getElem_cons_zero, Act.put, List.setIfInBounds_toArray, List.set_cons_zero, List.set_cons_succ]
          refine wpAnyH_ready (rs := [8]) (by kernel_rfl) (by simp) ?_
          refine AllReadyH.cons rfl (fun K hK => ?_) AllReadyH.nil
          simp only [List.getElem_toArray, List.getElem_cons_succ, List.getElem_cons_zero]
          go_simp
          refine (rturned_18 _ _ HX15.out).mono ?_
          rintro e' wz2 ⟨rfl, q, hq⟩
          have S2 : wz2.cell? ⟨gw, k16, none⟩ = some (.int .u32 (gt us k16 : Nat)) ∧ wz2.cell? ⟨gw, k7, none⟩ = some (.int .u32 (gt us k7 : Nat)) := by rw [hq]; exact S1
          replace HR2 := Lib.hid (show _ from hq ▸ HR2.out.drewN q)
          clear hq
          refine hK.out _ _ S2 (fun _ => ?_)
          clear hK K
          try simp only [List.getElem_toArray, List.getElem_cons_succ, List.getElem_cons_zero, Act.put, List.setIfInBounds_toArray, List.set_cons_zero, List.set_cons_succ]
          refine wpAnyH_take (i := 9) (v := ?v9b) rfl (by kernel_rfl) (by kernel_rfl) (by kernel_rfl) (fun _ _ _ h => h) (Or.inl ⟨by rfl, ?y9b⟩) S2 ?r9b
          case y9b => (intro w hSw; clear hSw; go_simp; try with_reducible rfl)
          simp only [List.getElem_toArray, List.getElem_cons_succ, List.getElem_cons_zero, Act.put, List.setIfInBounds_toArray, List.set_cons_zero, List.set_cons_succ]
          refine wpAnyH_take (i := 12) (v := ?v12b) rfl (by kernel_rfl) (by kernel_rfl) (by kernel_rfl) (fun _ _ _ h => h) (Or.inl ⟨by rfl, ?y12b⟩) S2 ?r12b
          case y12b => (intro w hSw; clear hSw; go_simp; try with_reducible rfl)
          simp only [List.getElem_toArray, List.getElem_cons_succ, List.getElem_cons_zero, Act.put, List.setIfInBounds_toArray, List.set_cons_zero, List.set_cons_succ]
          refine wpAnyH_take (i := 13) (v := ?v13b) rfl (by kernel_rfl) (by kernel_rfl) (by kernel_rfl) (fun _ _ _ h => h) (Or.inl ⟨by rfl, ?y13b⟩) S2 ?r13b
          case y13b => (intro w hSw; clear hSw; go_simp; try with_reducible rfl)
          simp only [List.getElem_toArray, List.getElem_cons_succ, List.getElem_cons_zero, Act.put, List.setIfInBounds_toArray, List.set_cons_zero, List.set_cons_succ]
          refine wpAnyH_take (i := 18) (v := ?v18b) rfl (by kernel_rfl) (by kernel_rfl) (by kernel_rfl) (fun _ _ _ h => h) (Or.inl ⟨by rfl, ?y18b⟩) S2 ?r18b
          case y18b => (intro w hSw; clear hSw; go_simp; try with_reducible rfl)
          simp only [List.getElem_toArray, List.getElem_cons_succ, List.getElem_cons_zero, Act.put, List.setIfInBounds_toArray, List.set_cons_zero, List.set_cons_succ]
          refine wpAnyH_ready (rs := [20]) (by kernel_rfl) (by simp) ?_
          refine AllReadyH.cons rfl (fun K hK => ?_) AllReadyH.nil
          simp only [List.getElem_toArray, List.getElem_cons_succ, List.getElem_cons_zero]
          go_simp
          refine (rturned_17 _ _ HX2.out).mono ?_
          rintro e' wz3 ⟨rfl, q, hq⟩
          have S3 : wz3.cell? ⟨gw, k16, none⟩ = some (.int .u32 (gt us k16 : Nat)) ∧ wz3.cell? ⟨gw, k7, none⟩ = some (.int .u32 (gt us k7 : Nat)) := by rw [hq]; exact S2
          replace HR2 := Lib.hid (show _ from hq ▸ HR2.out.drewN q)
          clear hq
          refine hK.out _ _ S3 (fun _ => ?_)
          clear hK K
          try simp only [List.getElem_toArray, List.getElem_cons_succ, List.getElem_cons_zero, Act.put, List.setIfInBounds_toArray, List.set_cons_zero, List.set_cons_succ]
          refine wpAnyH_ready (rs := [22]) (by kernel_rfl) (by simp) ?_
          refine AllReadyH.cons rfl (fun K hK => ?_) AllReadyH.nil
          simp only [List.getElem_toArray, List.getElem_cons_succ, List.getElem_cons_zero]
          go_simp
          refine (rturned_19 _ _ HX2.out).mono ?_
          rintro e' wz4 ⟨rfl, q, hq⟩
          have S4 : wz4.cell? ⟨gw, k16, none⟩ = some (.int .u32 (gt us k16 : Nat)) ∧ wz4.cell? ⟨gw, k7, none⟩ = some (.int .u32 (gt us k7 : Nat)) := by rw [hq]; exact S3
          replace HR2 := Lib.hid (show _ from hq ▸ HR2.out.drewN q)
          clear hq
          refine hK.out _ _ S4 (fun _ => ?_)
          clear hK K
          try simp only [List.getElem_toArray, List.getElem_cons_succ, List.getElem_cons_zero, Act.put, List.setIfInBounds_toArray, List.set_cons_zero, List.set_cons_succ]
          refine wpAnyH_take (i := 23) (v := ?v23b) rfl (by kernel_rfl) (by kernel_rfl) (by kernel_rfl) (fun _ _ _ h => h) (Or.inl ⟨by rfl, ?y23b⟩) S4 ?r23b
          case y23b => (intro w hSw; clear hSw; go_simp; try with_reducible rfl)
          simp only [List.getElem_toArray, List.getElem_cons_succ, List.getElem_cons_zero, Act.put, List.setIfInBounds_toArray, List.set_cons_zero, List.set_cons_succ]
          refine wpAnyH_take (i := 26) (v := ?v26b) rfl (by kernel_rfl) (by kernel_rfl) (by kernel_rfl) (fun _ _ _ h => h) (Or.inl ⟨by rfl, ?y26b⟩) S4 ?r26b
          case y26b => (intro w hSw; clear hSw; go_simp; try with_reducible rfl)
          simp only [List.getElem_toArray, List.getElem_cons_succ, List.getElem_cons_zero, Act.put, List.setIfInBounds_toArray, List.set_cons_zero, List.set_cons_succ]
          refine wpAnyH_take (i := 27) (v := ?v27b) rfl (by kernel_rfl) (by kernel_rfl) (by kernel_rfl) (fun _ _ _ h => h) (Or.inl ⟨by rfl, ?y27b⟩) S4 ?r27b
          case y27b => (intro w hSw; clear hSw; go_simp; try with_reducible rfl)
          simp only [List.getElem_toArray, List.getElem_cons_succ, List.getElem_cons_zero, Act.put, List.setIfInBounds_toArray, List.set_cons_zero, List.set_cons_succ]
          refine wpAnyH_take (i := 28) (v := ?v28b) rfl (by kernel_rfl) (by kernel_rfl) (by kernel_rfl) (fun _ _ _ h => h) (Or.inl ⟨by rfl, ?y28b⟩) S4 ?r28b
          case y28b => (intro w hSw; clear hSw; go_simp; try with_reducible rfl)
          simp only [List.getElem_toArray, List.getElem_cons_succ, List.getElem_cons_zero, Act.put, List.setIfInBounds_toArray, List.set_cons_zero, List.set_cons_succ]
          have d4 := HR2.out.wd.cell (i := k) hk64
          have d5 := HR2.out.wd.frozen k
          unfold wordRow at d4
          refine wpAnyH_ready (rs := [29]) (by kernel_rfl) (by simp) ?_
          refine AllReadyH.cons rfl (fun K hK => ?_) AllReadyH.nil
          simp only [List.getElem_toArray, List.getElem_cons_succ, List.getElem_cons_zero]
          go_simp
          have HR3 := Lib.hid (HR2.out.setW (by omega) hkw HOK.out.1 (j + 16) _ (by omega) (j := k) (by omega) (z := ((add (add (add (gt us k16) (sig0 vx)) (gt us k7)) (sig1 vy) : Nat) : Int)) rfl)
          have S5 : (wz4.setCell ⟨gw, k, none⟩ (.int .u32 ((add (add (add (gt us k16) (sig0 vx)) (gt us k7)) (sig1 vy) : Nat) : Int))).cell? ⟨gw, k16, none⟩ = some (.int .u32 (gt us k16 : Nat)) ∧ (wz4.setCell ⟨gw, k, none⟩ (.int .u32 ((add (add (add (gt us k16) (sig0 vx)) (gt us k7)) (sig1 vy) : Nat) : Int))).cell? ⟨gw, k7, none⟩ = some (.int .u32 (gt us k7 : Nat)) := by
            refine ⟨(HR3.out.wd.cell l16).trans ?_, (HR3.out.wd.cell l7).trans ?_⟩
            · unfold wordRow; rw [gt_set _ _ _ _ (by rw [HOK.out.1]; omega), if_neg (by omega)]
            · unfold wordRow; rw [gt_set _ _ _ _ (by rw [HOK.out.1]; omega), if_neg (by omega)]
          refine hK.out _ _ S5 (fun _ => ?_)
          clear hK K
          try simp only [List.getElem_toArray, List.getElem_cons_succ, List.getElem_cons_zero, Act.put, List.setIfInBounds_toArray, List.set_cons_zero, List.set_cons_succ]
          refine wpAnyH_done (by kernel_rfl) ?_ _
          dsimp only
          go_wp2
          go_roundw
          case rel => exact ⟨k + 1, j + 1, by omega, by omega, by omega, by go_num, Lib.hid (by rw [HSU.out (), HNX.out ()]; exact HR3.out)⟩
          case measure => simp [intOf]; omega
        · obtain rfl : j = 48 := by omega
          obtain rfl : k = 64 := by omega
          rw [HW0.out ()] at HR2
          clear hj hjk hkj hk64 HW0 HOF HR1
          rw [show ((64 : Nat) : Int) = 64 from rfl]
          have HI8 : Hid ((Tryd.prog.info? 49).map (·.size) = some (numsOf .u32 s).size) := Lib.hid (by rw [HSS.out]; kernel_rfl)
          have HZ8 := Lib.hid (show (numsOf .u32 (tab 8 fun _ => 0)).size = (numsOf .u32 s).size by rw [HSS.out, numsOf_size, tab_len])
          have HSr := Lib.hid (heap_words HR2.out.st HO.out.1)
          go_wp2_with (first | (refine wpList_load_row rfl 49 (.tmp 2) rfl w.heap.size rfl 49 (numsOf .u32 s) (0, 0) _ HSr.out Tryd.underlying49 rfl HI8.out ?_) | (refine wpList_store_row rfl 49 (.tmp 11) (.tmp 99) rfl wr.heap.size (numsOf .u32 s) rfl rfl 49 (numsOf .u32 (tab 8 fun _ => 0)) (heap_alloc_last wr _) HI8.out HZ8.out (numsOf_one _ _) ?_; rw [World.setRow_alloc_new]))
          have HR3 := Lib.hid (HR2.out.alloc (.cells (numsOf .u32 s) 49))
          have HV3 := Lib.hid (rowIs_words (heap_alloc_last wr (.cells (numsOf .u32 s) 49)) HO.out.1)
          have hgv : gw < wr.heap.size := HR2.out.wd.lt
          generalize wr.alloc (.cells (numsOf .u32 s) 49) = W3 at *
          generalize wr.heap.size = gv at *
          clear HSr HR2
          go_loopw [12] (fun i W => ∃ (k : Nat) (v : List Nat), k ≤ 64 ∧ i = .int .i64 k ∧ Hid (Unit → roundsTo ws s k = v) ∧ Hid (RB w W gk gw s ws) ∧ Hid (W.rowIs gv 49 8 (wordRow .u32 v))) (fun i _ => 64 - (intOf i).toNat)
          case atStart => exact ⟨0, s, by omega, rfl, Lib.hid fun _ => rfl, HR3, HV3⟩
          case round =>
            obtain ⟨k, v, hk, rfl, HVk, HR4, HV4⟩ := hrel
            have hov : Ok 4294967296 8 v := by rw [← HVk.out ()]; exact ok_roundsTo HO.out k
            by_cases hk64 : k < 64
            · have HNX : Hid (Unit → roundsTo ws s (k + 1) = round v (gt consT k) (gt ws k)) := Lib.hid fun _ => by rw [← HVk.out ()]; rfl
              have d0 : wr.cell? ⟨gv, 0, none⟩ = some (.int .u32 (gt v 0 : Nat)) := HV4.out.cell (i := 0) (by omega)
              have d1 : wr.cell? ⟨gv, 1, none⟩ = some (.int .u32 (gt v 1 : Nat)) := HV4.out.cell (i := 1) (by omega)
              have d2 : wr.cell? ⟨gv, 2, none⟩ = some (.int .u32 (gt v 2 : Nat)) := HV4.out.cell (i := 2) (by omega)
              have d3 : wr.cell? ⟨gv, 3, none⟩ = some (.int .u32 (gt v 3 : Nat)) := HV4.out.cell (i := 3) (by omega)
              have d4 : wr.cell? ⟨gv, 4, none⟩ = some (.int .u32 (gt v 4 : Nat)) := HV4.out.cell (i := 4) (by omega)
              have d5 : wr.cell? ⟨gv, 5, none⟩ = some (.int .u32 (gt v 5 : Nat)) := HV4.out.cell (i := 5) (by omega)
              have d6 : wr.cell? ⟨gv, 6, none⟩ = some (.int .u32 (gt v 6 : Nat)) := HV4.out.cell (i := 6) (by omega)
              have d7 : wr.cell? ⟨gv, 7, none⟩ = some (.int .u32 (gt v 7 : Nat)) := HV4.out.cell (i := 7) (by omega)
              have t0 : wr.cell? ⟨gk, k, none⟩ = some (.int .u32 (gt consT k : Nat)) := HR4.out.ks.cell hk64
              have t1 : wr.cell? ⟨gw, k, none⟩ = some (.int .u32 (gt ws k : Nat)) := HR4.out.wd.cell hk64
              have yk : (k : Int) < 64 := by omega
              have n0 : bits .xor .u32 IntKind.u32.max ((gt v 4 : Nat) : Int) = (notw (gt v 4) : Nat) := u32_not (gt v 4) (hov.2 4)
              have n1 := u32_not (gt v 4) (hov.2 4)
              have n2 := ch_bits (hov.2 4) (hov.2 5) (hov.2 6)
              have n3 := maj_bits (hov.2 0) (hov.2 1) (hov.2 2)
              have n4 := turned_bits 6 11 25 (hov.2 4)
              have n5 := turned_bits 2 13 22 (hov.2 0)
              have a1 := add_wrap (gt v 7) (turned (gt v 4) 6 11 25)
              have a2 := add_wrap (add (gt v 7) (turned (gt v 4) 6 11 25)) (ch (gt v 4) (gt v 5) (gt v 6))
              have a3 := add_wrap (add (add (gt v 7) (turned (gt v 4) 6 11 25)) (ch (gt v 4) (gt v 5) (gt v 6))) (gt consT k)
              have a4 : IntKind.u32.wrap (((add (add (add (gt v 7) (turned (gt v 4) 6 11 25)) (ch (gt v 4) (gt v 5) (gt v 6))) (gt consT k) : Nat) : Int) + ((gt ws k : Nat) : Int)) = ((tOf v (gt consT k) (gt ws k) : Nat) : Int) := by
                unfold tOf; exact add_wrap _ _
              have b1 : IntKind.u32.wrap (((turned (gt v 0) 2 13 22 : Nat) : Int) + ((maj (gt v 0) (gt v 1) (gt v 2) : Nat) : Int)) = ((uOf v : Nat) : Int) := by unfold uOf; exact add_wrap _ _
              have HX4 := Lib.hid (hov.2 4); have HX0 := Lib.hid (hov.2 0); have HOV := Lib.hid hov; clear hov
              generalize gt consT k = ck at *
              generalize gt ws k = wk at *
              go_wp2
              refine region_calm ?_
              refine wp_region_any (by kernel_rfl) ?_
              change wpAny _ _ _ _ _ _ _ (World.drew _)
              have S0 : wr.drew.cell? ⟨gv, 7, none⟩ = some (.int .u32 (gt v 7 : Nat)) ∧ wr.drew.cell? ⟨gv, 5, none⟩ = some (.int .u32 (gt v 5 : Nat)) ∧ wr.drew.cell? ⟨gv, 6, none⟩ = some (.int .u32 (gt v 6 : Nat)) ∧ wr.drew.cell? ⟨gk, k, none⟩ = some (.int .u32 (ck : Nat)) ∧ wr.drew.cell? ⟨gw, k, none⟩ = some (.int .u32 (wk : Nat)) := ⟨d7, d5, d6, t0, t1⟩
              replace HR4 := Lib.hid HR4.out.drew
              replace HV4 := Lib.hid HV4.out.drew
              clear d0 d1 d2 d3 d4 d5 d6 d7 t0 t1
              generalize wr.drew = wd at *
              refine wpAny_of_held (S := fun w' => w'.cell? ⟨gv, 7, none⟩ = some (.int .u32 (gt v 7 : Nat)) ∧ w'.cell? ⟨gv, 5, none⟩ = some (.int .u32 (gt v 5 : Nat)) ∧ w'.cell? ⟨gv, 6, none⟩ = some (.int .u32 (gt v 6 : Nat)) ∧ w'.cell? ⟨gk, k, none⟩ = some (.int .u32 (ck : Nat)) ∧ w'.cell? ⟨gw, k, none⟩ = some (.int .u32 (wk : Nat))) _ _ _ _ ?_
              refine wpAnyH_take (i := 0) (v := ?v0c) rfl (by kernel_rfl) (by kernel_rfl) (by kernel_rfl) (fun _ _ _ h => h) (Or.inl ⟨by rfl, ?y0c⟩) S0 ?r0c
              case y0c => (intro w hSw; clear hSw; go_simp; try with_reducible rfl)
              simp only [List.getElem_toArray, List.getElem_cons_succ, List.getElem_cons_zero, Act.put, List.setIfInBounds_toArray, List.set_cons_zero, List.set_cons_succ]
              refine wpAnyH_take (i := 1) (v := ?v1c) rfl (by kernel_rfl) (by kernel_rfl) (by kernel_rfl) (fun _ _ _ h => h) (Or.inl ⟨by rfl, ?y1c⟩) S0 ?r1c
              case y1c => (intro w hSw; obtain ⟨hs1, hs2, hs3, hs4, hs5⟩ := hSw; go_simp; try with_reducible rfl)
              simp only [List.getElem_toArray, List.getElem_cons_succ, List.getElem_cons_zero, Act.put, List.setIfInBounds_toArray, List.set_cons_zero, List.set_cons_succ]
              refine wpAnyH_take (i := 2) (v := ?v2c) rfl (by kernel_rfl) (by kernel_rfl) (by kernel_rfl) (fun _ _ _ h => h) (Or.inl ⟨by rfl, ?y2c⟩) S0 ?r2c
              case y2c => (intro w hSw; clear hSw; go_simp; try with_reducible rfl)
              simp only [List.getElem_toArray, List.getElem_cons_succ, List.getElem_cons_zero, Act.put, List.setIfInBounds_toArray, List.set_cons_zero, List.set_cons_succ]
              refine wpAnyH_take (i := 4) (v := ?v4c) rfl (by kernel_rfl) (by kernel_rfl) (by kernel_rfl) (fun _ _ _ h => h) (Or.inl ⟨by rfl, ?y4c⟩) S0 ?r4c
              case y4c => (intro w hSw; clear hSw; go_simp; try with_reducible rfl)
              simp only [List.getElem_toArray, List.getElem_cons_succ, List.getElem_cons_zero, Act.put, List.setIfInBounds_toArray, List.set_cons_zero, List.set_cons_succ]
              refine wpAnyH_take (i := 7) (v := ?v7c) rfl (by kernel_rfl) (by kernel_rfl) (by kernel_rfl) (fun _ _ _ h => h) (Or.inl ⟨by rfl, ?y7c⟩) S0 ?r7c
              case y7c => (intro w hSw; clear hSw; go_simp; try with_reducible rfl)
              simp only [List.getElem_toArray, List.getElem_cons_succ, List.getElem_cons_zero, Act.put, List.setIfInBounds_toArray, List.set_cons_zero, List.set_cons_succ]
              refine wpAnyH_take (i := 11) (v := ?v11c) rfl (by kernel_rfl) (by kernel_rfl) (by kernel_rfl) (fun _ _ _ h => h) (Or.inl ⟨by rfl, ?y11c⟩) S0 ?r11c
              case y11c => (intro w hSw; clear hSw; go_simp; try with_reducible rfl)
              simp only [List.getElem_toArray, List.getElem_cons_succ, List.getElem_cons_zero, Act.put, List.setIfInBounds_toArray, List.set_cons_zero, List.set_cons_succ]
              refine wpAnyH_take (i := 12) (v := ?v12c) rfl (by kernel_rfl) (by kernel_rfl) (by kernel_rfl) (fun _ _ _ h => h) (Or.inl ⟨by rfl, ?y12c⟩) S0 ?r12c
              case y12c => (intro w hSw; clear hSw; go_simp; try with_reducible rfl)
              simp only [List.getElem_toArray, List.getElem_cons_succ, List.getElem_cons_zero, Act.put, List.setIfInBounds_toArray, List.set_cons_zero, List.set_cons_succ]
              refine wpAnyH_take (i := 13) (v := ?v13c) rfl (by kernel_rfl) (by kernel_rfl) (by kernel_rfl) (fun _ _ _ h => h) (Or.inl ⟨by rfl, ?y13c⟩) S0 ?r13c
              case y13c => (intro w hSw; obtain ⟨hs1, hs2, hs3, hs4, hs5⟩ := hSw; go_simp; try with_reducible rfl)
              simp only [List.getElem_toArray, List.getElem_cons_succ, List.getElem_cons_zero, Act.put, List.setIfInBounds_toArray, List.set_cons_zero, List.set_cons_succ]
              refine wpAnyH_take (i := 14) (v := ?v14c) rfl (by kernel_rfl) (by kernel_rfl) (by kernel_rfl) (fun _ _ _ h => h) (Or.inl ⟨by rfl, ?y14c⟩) S0 ?r14c
              case y14c => (intro w hSw; clear hSw; go_simp; try with_reducible rfl)
              simp only [List.getElem_toArray, List.getElem_cons_succ, List.getElem_cons_zero, Act.put, List.setIfInBounds_toArray, List.set_cons_zero, List.set_cons_succ]
              refine wpAnyH_take (i := 15) (v := ?v15c) rfl (by kernel_rfl) (by kernel_rfl) (by kernel_rfl) (fun _ _ _ h => h) (Or.inl ⟨by rfl, ?y15c⟩) S0 ?r15c
              case y15c => (intro w hSw; clear hSw; go_simp; try with_reducible rfl)
              simp only [List.getElem_toArray, List.getElem_cons_succ, List.getElem_cons_zero, Act.put, List.setIfInBounds_toArray, List.set_cons_zero, List.set_cons_succ]
              refine wpAnyH_take (i := 16) (v := ?v16c) rfl (by kernel_rfl) (by kernel_rfl) (by kernel_rfl) (fun _ _ _ h => h) (Or.inl ⟨by rfl, ?y16c⟩) S0 ?r16c
              case y16c => (intro w hSw; clear hSw; go_simp; try with_reducible rfl)
              simp only [List.getElem_toArray, List.getElem_cons_succ, List.getElem_cons_zero, Act.put, List.setIfInBounds_toArray, List.set_cons_zero, List.set_cons_succ]
              refine wpAnyH_take (i := 17) (v := ?v17c) rfl (by kernel_rfl) (by kernel_rfl) (by kernel_rfl) (fun _ _ _ h => h) (Or.inl ⟨by rfl, ?y17c⟩) S0 ?r17c
              case y17c => (intro w hSw; clear hSw; go_simp; try with_reducible rfl)
              simp only [List.getElem_toArray, List.getElem_cons_succ, List.getElem_cons_zero, Act.put, List.setIfInBounds_toArray, List.set_cons_zero, List.set_cons_succ]
              refine wpAnyH_take (i := 18) (v := ?v18c) rfl (by kernel_rfl) (by kernel_rfl) (by kernel_rfl) (fun _ _ _ h => h) (Or.inl ⟨by rfl, ?y18c⟩) S0 ?r18c
              case y18c => (intro w hSw; obtain ⟨hs1, hs2, hs3, hs4, hs5⟩ := hSw; go_simp; try with_reducible rfl)
              simp only [List.getElem_toArray, List.getElem_cons_succ, List.getElem_cons_zero, Act.put, List.setIfInBounds_toArray, List.set_cons_zero, List.set_cons_succ]
              refine wpAnyH_take (i := 19) (v := ?v19c) rfl (by kernel_rfl) (by kernel_rfl) (by kernel_rfl) (fun _ _ _ h => h) (Or.inl ⟨by rfl, ?y19c⟩) S0 ?r19c
              case y19c => (intro w hSw; clear hSw; go_simp; try with_reducible rfl)
              simp only [List.getElem_toArray, List.getElem_cons_succ, List.getElem_cons_zero, Act.put, List.setIfInBounds_toArray, List.set_cons_zero, List.set_cons_succ]
              refine wpAnyH_take (i := 20) (v := ?v20c) rfl (by kernel_rfl) (by kernel_rfl) (by kernel_rfl) (fun _ _ _ h => h) (Or.inl ⟨by rfl, ?y20c⟩) S0 ?r20c
              case y20c => (intro w hSw; clear hSw; go_simp; try with_reducible rfl)
              simp only [List.getElem_toArray, List.getElem_cons_succ, List.getElem_cons_zero, Act.put, List.setIfInBounds_toArray, List.set_cons_zero, List.set_cons_succ]
              refine wpAnyH_take (i := 22) (v := ?v22c) rfl (by kernel_rfl) (by kernel_rfl) (by kernel_rfl) (fun _ _ _ h => h) (Or.inl ⟨by rfl, ?y22c⟩) S0 ?r22c
              case y22c => (intro w hSw; clear hSw; go_simp; try with_reducible rfl)
              simp only [List.getElem_toArray, List.getElem_cons_succ, List.getElem_cons_zero, Act.put, List.setIfInBounds_toArray, List.set_cons_zero, List.set_cons_succ]
              refine wpAnyH_take (i := 23) (v := ?v23c) rfl (by kernel_rfl) (by kernel_rfl) (by kernel_rfl) (fun _ _ _ h => h) (Or.inl ⟨by rfl, ?y23c⟩) S0 ?r23c
              case y23c => (intro w hSw; clear hSw; go_simp; try with_reducible rfl)
              simp only [List.getElem_toArray, List.getElem_cons_succ, List.getElem_cons_zero, Act.put, List.setIfInBounds_toArray, List.set_cons_zero, List.set_cons_succ]
              refine wpAnyH_take (i := 24) (v := ?v24c) rfl (by kernel_rfl) (by kernel_rfl) (by kernel_rfl) (fun _ _ _ h => h) (Or.inl ⟨by rfl, ?y24c⟩) S0 ?r24c
              case y24c => (intro w hSw; obtain ⟨hs1, hs2, hs3, hs4, hs5⟩ := hSw; go_simp; try with_reducible rfl)
              simp only [List.getElem_toArray, List.getElem_cons_succ, List.getElem_cons_zero, Act.put, List.setIfInBounds_toArray, List.set_cons_zero, List.set_cons_succ]
              refine wpAnyH_take (i := 26) (v := ?v26c) rfl (by kernel_rfl) (by kernel_rfl) (by kernel_rfl) (fun _ _ _ h => h) (Or.inl ⟨by rfl, ?y26c⟩) S0 ?r26c
              case y26c => (intro w hSw; clear hSw; go_simp; try with_reducible rfl)
              simp only [List.getElem_toArray, List.getElem_cons_succ, List.getElem_cons_zero, Act.put, List.setIfInBounds_toArray, List.set_cons_zero, List.set_cons_succ]
              refine wpAnyH_take (i := 27) (v := ?v27c) rfl (by kernel_rfl) (by kernel_rfl) (by kernel_rfl) (fun _ _ _ h => h) (Or.inl ⟨by rfl, ?y27c⟩) S0 ?r27c
              case y27c => (intro w hSw; clear hSw; go_simp; try with_reducible rfl)
              simp only [List.getElem_toArray, List.getElem_cons_succ, List.getElem_cons_zero, Act.put, List.setIfInBounds_toArray, List.set_cons_zero, List.set_cons_succ]
              refine wpAnyH_take (i := 28) (v := ?v28c) rfl (by kernel_rfl) (by kernel_rfl) (by kernel_rfl) (fun _ _ _ h => h) (Or.inl ⟨by rfl, ?y28c⟩) S0 ?r28c
              case y28c => (intro w hSw; obtain ⟨hs1, hs2, hs3, hs4, hs5⟩ := hSw; go_simp; try with_reducible rfl)
              simp only [List.getElem_toArray, List.getElem_cons_succ, List.getElem_cons_zero, Act.put, List.setIfInBounds_toArray, List.set_cons_zero, List.set_cons_succ]
              refine wpAnyH_ready (rs := [3]) (by kernel_rfl) (by simp) ?_
              refine AllReadyH.cons rfl (fun K hK => ?_) AllReadyH.nil
              simp only [List.getElem_toArray, List.getElem_cons_succ, List.getElem_cons_zero]
              go_simp
              refine (rturned_6 _ _ HX4.out).mono ?_
              rintro e' wz1 ⟨rfl, q, hq⟩
              have S1 : wz1.cell? ⟨gv, 7, none⟩ = some (.int .u32 (gt v 7 : Nat)) ∧ wz1.cell? ⟨gv, 5, none⟩ = some (.int .u32 (gt v 5 : Nat)) ∧ wz1.cell? ⟨gv, 6, none⟩ = some (.int .u32 (gt v 6 : Nat)) ∧ wz1.cell? ⟨gk, k, none⟩ = some (.int .u32 (ck : Nat)) ∧ wz1.cell? ⟨gw, k, none⟩ = some (.int .u32 (wk : Nat)) := by rw [hq]; exact S0
              replace HR4 := Lib.hid (show RB w wz1 gk gw s ws from hq ▸ HR4.out.drewN q)
              replace HV4 := Lib.hid (show wz1.rowIs gv 49 8 (wordRow .u32 v) from hq ▸ rowIs_drewN HV4.out q)
              clear hq
              refine hK.out _ _ S1 (fun _ => ?_)
              clear hK K
              try simp only [List.getElem_toArray, List.getElem_cons_succ, List.getElem_cons_zero, Act.put, List.setIfInBounds_toArray, List.set_cons_zero, List.set_cons_succ]
              refine wpAnyH_ready (rs := [5]) (by kernel_rfl) (by simp) ?_
              refine AllReadyH.cons rfl (fun K hK => ?_) AllReadyH.nil
              simp only [List.getElem_toArray, List.getElem_cons_succ, List.getElem_cons_zero]
              go_simp
              refine (rturned_11 _ _ HX4.out).mono ?_
              rintro e' wz2 ⟨rfl, q, hq⟩
              have S2 : wz2.cell? ⟨gv, 7, none⟩ = some (.int .u32 (gt v 7 : Nat)) ∧ wz2.cell? ⟨gv, 5, none⟩ = some (.int .u32 (gt v 5 : Nat)) ∧ wz2.cell? ⟨gv, 6, none⟩ = some (.int .u32 (gt v 6 : Nat)) ∧ wz2.cell? ⟨gk, k, none⟩ = some (.int .u32 (ck : Nat)) ∧ wz2.cell? ⟨gw, k, none⟩ = some (.int .u32 (wk : Nat)) := by rw [hq]; exact S1
              replace HR4 := Lib.hid (show RB w wz2 gk gw s ws from hq ▸ HR4.out.drewN q)
              replace HV4 := Lib.hid (show wz2.rowIs gv 49 8 (wordRow .u32 v) from hq ▸ rowIs_drewN HV4.out q)
              clear hq
              refine hK.out _ _ S2 (fun _ => ?_)
              clear hK K
              try simp only [List.getElem_toArray, List.getElem_cons_succ, List.getElem_cons_zero, Act.put, List.setIfInBounds_toArray, List.set_cons_zero, List.set_cons_succ]
              refine wpAnyH_take (i := 6) (v := ?v6c) rfl (by kernel_rfl) (by kernel_rfl) (by kernel_rfl) (fun _ _ _ h => h) (Or.inl ⟨by rfl, ?y6c⟩) S2 ?r6c
              case y6c => (intro w hSw; clear hSw; go_simp; try with_reducible rfl)
              simp only [List.getElem_toArray, List.getElem_cons_succ, List.getElem_cons_zero, Act.put, List.setIfInBounds_toArray, List.set_cons_zero, List.set_cons_succ]
              refine wpAnyH_ready (rs := [8]) (by kernel_rfl) (by simp) ?_
              refine AllReadyH.cons rfl (fun K hK => ?_) AllReadyH.nil
              simp only [List.getElem_toArray, List.getElem_cons_succ, List.getElem_cons_zero]
              go_simp
              refine (rturned_25 _ _ HX4.out).mono ?_
              rintro e' wz3 ⟨rfl, q, hq⟩
              have S3 : wz3.cell? ⟨gv, 7, none⟩ = some (.int .u32 (gt v 7 : Nat)) ∧ wz3.cell? ⟨gv, 5, none⟩ = some (.int .u32 (gt v 5 : Nat)) ∧ wz3.cell? ⟨gv, 6, none⟩ = some (.int .u32 (gt v 6 : Nat)) ∧ wz3.cell? ⟨gk, k, none⟩ = some (.int .u32 (ck : Nat)) ∧ wz3.cell? ⟨gw, k, none⟩ = some (.int .u32 (wk : Nat)) := by rw [hq]; exact S2
              replace HR4 := Lib.hid (show RB w wz3 gk gw s ws from hq ▸ HR4.out.drewN q)
              replace HV4 := Lib.hid (show wz3.rowIs gv 49 8 (wordRow .u32 v) from hq ▸ rowIs_drewN HV4.out q)
              clear hq
              refine hK.out _ _ S3 (fun _ => ?_)
              clear hK K
              try simp only [List.getElem_toArray, List.getElem_cons_succ, List.getElem_cons_zero, Act.put, List.setIfInBounds_toArray, List.set_cons_zero, List.set_cons_succ]
              refine wpAnyH_take (i := 9) (v := ?v9c) rfl (by kernel_rfl) (by kernel_rfl) (by kernel_rfl) (fun _ _ _ h => h) (Or.inl ⟨by rfl, ?y9c⟩) S3 ?r9c
              case y9c => (intro w hSw; clear hSw; go_simp; try with_reducible rfl)
              simp only [List.getElem_toArray, List.getElem_cons_succ, List.getElem_cons_zero, Act.put, List.setIfInBounds_toArray, List.set_cons_zero, List.set_cons_succ]
              refine wpAnyH_take (i := 10) (v := ?v10c) rfl (by kernel_rfl) (by kernel_rfl) (by kernel_rfl) (fun _ _ _ h => h) (Or.inl ⟨by rfl, ?y10c⟩) S3 ?r10c
              case y10c => (intro w hSw; clear hSw; go_simp; try with_reducible rfl)
              simp only [List.getElem_toArray, List.getElem_cons_succ, List.getElem_cons_zero, Act.put, List.setIfInBounds_toArray, List.set_cons_zero, List.set_cons_succ]
              refine wpAnyH_take (i := 21) (v := ?v21c) rfl (by kernel_rfl) (by kernel_rfl) (by kernel_rfl) (fun _ _ _ h => h) (Or.inl ⟨by rfl, ?y21c⟩) S3 ?r21c
              case y21c => (intro w hSw; clear hSw; go_simp; try with_reducible rfl)
              simp only [List.getElem_toArray, List.getElem_cons_succ, List.getElem_cons_zero, Act.put, List.setIfInBounds_toArray, List.set_cons_zero, List.set_cons_succ]
              refine wpAnyH_take (i := 25) (v := ?v25c) rfl (by kernel_rfl) (by kernel_rfl) (by kernel_rfl) (fun _ _ _ h => h) (Or.inl ⟨by rfl, ?y25c⟩) S3 ?r25c
              case y25c => (intro w hSw; clear hSw; go_simp; try with_reducible rfl)
              simp only [List.getElem_toArray, List.getElem_cons_succ, List.getElem_cons_zero, Act.put, List.setIfInBounds_toArray, List.set_cons_zero, List.set_cons_succ]
              refine wpAnyH_take (i := 29) (v := ?v29c) rfl (by kernel_rfl) (by kernel_rfl) (by kernel_rfl) (fun _ _ _ h => h) (Or.inl ⟨by rfl, ?y29c⟩) S3 ?r29c
              case y29c => (intro w hSw; clear hSw; go_simp; try with_reducible rfl)
              simp only [List.getElem_toArray, List.getElem_cons_succ, List.getElem_cons_zero, Act.put, List.setIfInBounds_toArray, List.set_cons_zero, List.set_cons_succ]
              refine wpAnyH_take (i := 30) (v := ?v30c) rfl (by kernel_rfl) (by kernel_rfl) (by kernel_rfl) (fun _ _ _ h => h) (Or.inl ⟨by rfl, ?y30c⟩) S3 ?r30c
              case y30c => (intro w hSw; clear hSw; go_simp; try with_reducible rfl)
              simp only [List.getElem_toArray, List.getElem_cons_succ, List.getElem_cons_zero, Act.put, List.setIfInBounds_toArray, List.set_cons_zero, List.set_cons_succ]
              refine wpAnyH_done (by kernel_rfl) ?_ _
              dsimp only
              clear S0 S1 S2 S3
              go_wp2
              refine region_calm ?_
              refine wp_region_any (by kernel_rfl) ?_
              change wpAny _ _ _ _ _ _ _ (World.drew _)
              replace HR4 := Lib.hid HR4.out.drew
              replace HV4 := Lib.hid HV4.out.drew
              generalize wz3.drew = wd2 at *
              have S0 : wd2.cell? ⟨gv, 1, none⟩ = some (.int .u32 (gt v 1 : Nat)) ∧ wd2.cell? ⟨gv, 2, none⟩ = some (.int .u32 (gt v 2 : Nat)) := ⟨HV4.out.cell (i := 1) (by omega), HV4.out.cell (i := 2) (by omega)⟩
              refine wpAny_of_held (S := fun w' => w'.cell? ⟨gv, 1, none⟩ = some (.int .u32 (gt v 1 : Nat)) ∧ w'.cell? ⟨gv, 2, none⟩ = some (.int .u32 (gt v 2 : Nat))) _ _ _ _ ?_
              refine wpAnyH_take (i := 0) (v := ?v0d) rfl (by kernel_rfl) (by kernel_rfl) (by kernel_rfl) (fun _ _ _ h => h) (Or.inl ⟨by rfl, ?y0d⟩) S0 ?r0d
              case y0d => (intro w hSw; clear hSw; go_simp; try with_reducible rfl)
              simp only [List.getElem_toArray, List.getElem_cons_succ, List.getElem_cons_zero, Act.put, List.setIfInBounds_toArray, List.set_cons_zero, List.set_cons_succ]
              refine wpAnyH_take (i := 2) (v := ?v2d) rfl (by kernel_rfl) (by kernel_rfl) (by kernel_rfl) (fun _ _ _ h => h) (Or.inl ⟨by rfl, ?y2d⟩) S0 ?r2d
              case y2d => (intro w hSw; clear hSw; go_simp; try with_reducible rfl)
              simp only [List.getElem_toArray, List.getElem_cons_succ, List.getElem_cons_zero, Act.put, List.setIfInBounds_toArray, List.set_cons_zero, List.set_cons_succ]
              refine wpAnyH_take (i := 5) (v := ?v5d) rfl (by kernel_rfl) (by kernel_rfl) (by kernel_rfl) (fun _ _ _ h => h) (Or.inl ⟨by rfl, ?y5d⟩) S0 ?r5d
              case y5d => (intro w hSw; clear hSw; go_simp; try with_reducible rfl)
              simp only [List.getElem_toArray, List.getElem_cons_succ, List.getElem_cons_zero, Act.put, List.setIfInBounds_toArray, List.set_cons_zero, List.set_cons_succ]
              refine wpAnyH_take (i := 8) (v := ?v8d) rfl (by kernel_rfl) (by kernel_rfl) (by kernel_rfl) (fun _ _ _ h => h) (Or.inl ⟨by rfl, ?y8d⟩) S0 ?r8d
              case y8d => (intro w hSw; clear hSw; go_simp; try with_reducible rfl)
              simp only [List.getElem_toArray, List.getElem_cons_succ, List.getElem_cons_zero, Act.put, List.setIfInBounds_toArray, List.set_cons_zero, List.set_cons_succ]
              refine wpAnyH_take (i := 9) (v := ?v9d) rfl (by kernel_rfl) (by kernel_rfl) (by kernel_rfl) (fun _ _ _ h => h) (Or.inl ⟨by rfl, ?y9d⟩) S0 ?r9d
              case y9d => (intro w hSw; clear hSw; go_simp; try with_reducible rfl)
              simp only [List.getElem_toArray, List.getElem_cons_succ, List.getElem_cons_zero, Act.put, List.setIfInBounds_toArray, List.set_cons_zero, List.set_cons_succ]
              refine wpAnyH_take (i := 10) (v := ?v10d) rfl (by kernel_rfl) (by kernel_rfl) (by kernel_rfl) (fun _ _ _ h => h) (Or.inl ⟨by rfl, ?y10d⟩) S0 ?r10d
              case y10d => (intro w hSw; obtain ⟨hs1, hs2⟩ := hSw; go_simp; try with_reducible rfl)
              simp only [List.getElem_toArray, List.getElem_cons_succ, List.getElem_cons_zero, Act.put, List.setIfInBounds_toArray, List.set_cons_zero, List.set_cons_succ]
              refine wpAnyH_take (i := 11) (v := ?v11d) rfl (by kernel_rfl) (by kernel_rfl) (by kernel_rfl) (fun _ _ _ h => h) (Or.inl ⟨by rfl, ?y11d⟩) S0 ?r11d
              case y11d => (intro w hSw; clear hSw; go_simp; try with_reducible rfl)
              simp only [List.getElem_toArray, List.getElem_cons_succ, List.getElem_cons_zero, Act.put, List.setIfInBounds_toArray, List.set_cons_zero, List.set_cons_succ]
              refine wpAnyH_take (i := 12) (v := ?v12d) rfl (by kernel_rfl) (by kernel_rfl) (by kernel_rfl) (fun _ _ _ h => h) (Or.inl ⟨by rfl, ?y12d⟩) S0 ?r12d
              case y12d => (intro w hSw; clear hSw; go_simp; try with_reducible rfl)
              simp only [List.getElem_toArray, List.getElem_cons_succ, List.getElem_cons_zero, Act.put, List.setIfInBounds_toArray, List.set_cons_zero, List.set_cons_succ]
              refine wpAnyH_take (i := 13) (v := ?v13d) rfl (by kernel_rfl) (by kernel_rfl) (by kernel_rfl) (fun _ _ _ h => h) (Or.inl ⟨by rfl, ?y13d⟩) S0 ?r13d
              case y13d => (intro w hSw; clear hSw; go_simp; try with_reducible rfl)
              simp only [List.getElem_toArray, List.getElem_cons_succ, List.getElem_cons_zero, Act.put, List.setIfInBounds_toArray, List.set_cons_zero, List.set_cons_succ]
              refine wpAnyH_take (i := 14) (v := ?v14d) rfl (by kernel_rfl) (by kernel_rfl) (by kernel_rfl) (fun _ _ _ h => h) (Or.inl ⟨by rfl, ?y14d⟩) S0 ?r14d
              case y14d => (intro w hSw; obtain ⟨hs1, hs2⟩ := hSw; go_simp; try with_reducible rfl)
              simp only [List.getElem_toArray, List.getElem_cons_succ, List.getElem_cons_zero, Act.put, List.setIfInBounds_toArray, List.set_cons_zero, List.set_cons_succ]
              refine wpAnyH_take (i := 15) (v := ?v15d) rfl (by kernel_rfl) (by kernel_rfl) (by kernel_rfl) (fun _ _ _ h => h) (Or.inl ⟨by rfl, ?y15d⟩) S0 ?r15d
              case y15d => (intro w hSw; clear hSw; go_simp; try with_reducible rfl)
              simp only [List.getElem_toArray, List.getElem_cons_succ, List.getElem_cons_zero, Act.put, List.setIfInBounds_toArray, List.set_cons_zero, List.set_cons_succ]
              refine wpAnyH_take (i := 16) (v := ?v16d) rfl (by kernel_rfl) (by kernel_rfl) (by kernel_rfl) (fun _ _ _ h => h) (Or.inl ⟨by rfl, ?y16d⟩) S0 ?r16d
              case y16d => (intro w hSw; clear hSw; go_simp; try with_reducible rfl)
              simp only [List.getElem_toArray, List.getElem_cons_succ, List.getElem_cons_zero, Act.put, List.setIfInBounds_toArray, List.set_cons_zero, List.set_cons_succ]
              refine wpAnyH_take (i := 17) (v := ?v17d) rfl (by kernel_rfl) (by kernel_rfl) (by kernel_rfl) (fun _ _ _ h => h) (Or.inl ⟨by rfl, ?y17d⟩) S0 ?r17d
              case y17d => (intro w hSw; clear hSw; go_simp; try with_reducible rfl)
              simp only [List.getElem_toArray, List.getElem_cons_succ, List.getElem_cons_zero, Act.put, List.setIfInBounds_toArray, List.set_cons_zero, List.set_cons_succ]
              refine wpAnyH_take (i := 18) (v := ?v18d) rfl (by kernel_rfl) (by kernel_rfl) (by kernel_rfl) (fun _ _ _ h => h) (Or.inl ⟨by rfl, ?y18d⟩) S0 ?r18d
              case y18d => (intro w hSw; obtain ⟨hs1, hs2⟩ := hSw; go_simp; try with_reducible rfl)
              simp only [List.getElem_toArray, List.getElem_cons_succ, List.getElem_cons_zero, Act.put, List.setIfInBounds_toArray, List.set_cons_zero, List.set_cons_succ]
              refine wpAnyH_take (i := 19) (v := ?v19d) rfl (by kernel_rfl) (by kernel_rfl) (by kernel_rfl) (fun _ _ _ h => h) (Or.inl ⟨by rfl, ?y19d⟩) S0 ?r19d
              case y19d => (intro w hSw; clear hSw; go_simp; try with_reducible rfl)
              simp only [List.getElem_toArray, List.getElem_cons_succ, List.getElem_cons_zero, Act.put, List.setIfInBounds_toArray, List.set_cons_zero, List.set_cons_succ]
              refine wpAnyH_take (i := 20) (v := ?v20d) rfl (by kernel_rfl) (by kernel_rfl) (by kernel_rfl) (fun _ _ _ h => h) (Or.inl ⟨by rfl, ?y20d⟩) S0 ?r20d
              case y20d => (intro w hSw; obtain ⟨hs1, hs2⟩ := hSw; go_simp; try with_reducible rfl)
              simp only [List.getElem_toArray, List.getElem_cons_succ, List.getElem_cons_zero, Act.put, List.setIfInBounds_toArray, List.set_cons_zero, List.set_cons_succ]
              refine wpAnyH_take (i := 21) (v := ?v21d) rfl (by kernel_rfl) (by kernel_rfl) (by kernel_rfl) (fun _ _ _ h => h) (Or.inl ⟨by rfl, ?y21d⟩) S0 ?r21d
              case y21d => (intro w hSw; clear hSw; go_simp; try with_reducible rfl)
              simp only [List.getElem_toArray, List.getElem_cons_succ, List.getElem_cons_zero, Act.put, List.setIfInBounds_toArray, List.set_cons_zero, List.set_cons_succ]
              refine wpAnyH_take (i := 22) (v := ?v22d) rfl (by kernel_rfl) (by kernel_rfl) (by kernel_rfl) (fun _ _ _ h => h) (Or.inl ⟨by rfl, ?y22d⟩) S0 ?r22d
              case y22d => (intro w hSw; clear hSw; go_simp; try with_reducible rfl)
              simp only [List.getElem_toArray, List.getElem_cons_succ, List.getElem_cons_zero, Act.put, List.setIfInBounds_toArray, List.set_cons_zero, List.set_cons_succ]
              refine wpAnyH_ready (rs := [1]) (by kernel_rfl) (by simp) ?_
              refine AllReadyH.cons rfl (fun K hK => ?_) AllReadyH.nil
              simp only [List.getElem_toArray, List.getElem_cons_succ, List.getElem_cons_zero]
              go_simp
              refine (rturned_2 _ _ HX0.out).mono ?_
              rintro e' wz1 ⟨rfl, q, hq⟩
              have S1 : wz1.cell? ⟨gv, 1, none⟩ = some (.int .u32 (gt v 1 : Nat)) ∧ wz1.cell? ⟨gv, 2, none⟩ = some (.int .u32 (gt v 2 : Nat)) := by rw [hq]; exact S0
              replace HR4 := Lib.hid (show RB w wz1 gk gw s ws from hq ▸ HR4.out.drewN q)
              replace HV4 := Lib.hid (show wz1.rowIs gv 49 8 (wordRow .u32 v) from hq ▸ rowIs_drewN HV4.out q)
              clear hq
              refine hK.out _ _ S1 (fun _ => ?_)
              clear hK K
              try simp only [List.getElem_toArray, List.getElem_cons_succ, List.getElem_cons_zero, Act.put, List.setIfInBounds_toArray, List.set_cons_zero, List.set_cons_succ]
              refine wpAnyH_ready (rs := [3]) (by kernel_rfl) (by simp) ?_
              refine AllReadyH.cons rfl (fun K hK => ?_) AllReadyH.nil
              simp only [List.getElem_toArray, List.getElem_cons_succ, List.getElem_cons_zero]
              go_simp
              refine (rturned_13 _ _ HX0.out).mono ?_
              rintro e' wz2 ⟨rfl, q, hq⟩
              have S2 : wz2.cell? ⟨gv, 1, none⟩ = some (.int .u32 (gt v 1 : Nat)) ∧ wz2.cell? ⟨gv, 2, none⟩ = some (.int .u32 (gt v 2 : Nat)) := by rw [hq]; exact S1
              replace HR4 := Lib.hid (show RB w wz2 gk gw s ws from hq ▸ HR4.out.drewN q)
              replace HV4 := Lib.hid (show wz2.rowIs gv 49 8 (wordRow .u32 v) from hq ▸ rowIs_drewN HV4.out q)
              clear hq
              refine hK.out _ _ S2 (fun _ => ?_)
              clear hK K
              try simp only [List.getElem_toArray, List.getElem_cons_succ, List.getElem_cons_zero, Act.put, List.setIfInBounds_toArray, List.set_cons_zero, List.set_cons_succ]
              refine wpAnyH_take (i := 4) (v := ?v4d) rfl (by kernel_rfl) (by kernel_rfl) (by kernel_rfl) (fun _ _ _ h => h) (Or.inl ⟨by rfl, ?y4d⟩) S2 ?r4d
              case y4d => (intro w hSw; clear hSw; go_simp; try with_reducible rfl)
              simp only [List.getElem_toArray, List.getElem_cons_succ, List.getElem_cons_zero, Act.put, List.setIfInBounds_toArray, List.set_cons_zero, List.set_cons_succ]
              refine wpAnyH_ready (rs := [6]) (by kernel_rfl) (by simp) ?_
              refine AllReadyH.cons rfl (fun K hK => ?_) AllReadyH.nil
              simp only [List.getElem_toArray, List.getElem_cons_succ, List.getElem_cons_zero]
              go_simp
              refine (rturned_22 _ _ HX0.out).mono ?_
              rintro e' wz3 ⟨rfl, q, hq⟩
              have S3 : wz3.cell? ⟨gv, 1, none⟩ = some (.int .u32 (gt v 1 : Nat)) ∧ wz3.cell? ⟨gv, 2, none⟩ = some (.int .u32 (gt v 2 : Nat)) := by rw [hq]; exact S2
              replace HR4 := Lib.hid (show RB w wz3 gk gw s ws from hq ▸ HR4.out.drewN q)
              replace HV4 := Lib.hid (show wz3.rowIs gv 49 8 (wordRow .u32 v) from hq ▸ rowIs_drewN HV4.out q)
              clear hq
              refine hK.out _ _ S3 (fun _ => ?_)
              clear hK K
              try simp only [List.getElem_toArray, List.getElem_cons_succ, List.getElem_cons_zero, Act.put, List.setIfInBounds_toArray, List.set_cons_zero, List.set_cons_succ]
              refine wpAnyH_take (i := 7) (v := ?v7d) rfl (by kernel_rfl) (by kernel_rfl) (by kernel_rfl) (fun _ _ _ h => h) (Or.inl ⟨by rfl, ?y7d⟩) S3 ?r7d
              case y7d => (intro w hSw; clear hSw; go_simp; try with_reducible rfl)
              simp only [List.getElem_toArray, List.getElem_cons_succ, List.getElem_cons_zero, Act.put, List.setIfInBounds_toArray, List.set_cons_zero, List.set_cons_succ]
              refine wpAnyH_take (i := 23) (v := ?v23d) rfl (by kernel_rfl) (by kernel_rfl) (by kernel_rfl) (fun _ _ _ h => h) (Or.inl ⟨by rfl, ?y23d⟩) S3 ?r23d
              case y23d => (intro w hSw; clear hSw; go_simp; try with_reducible rfl)
              simp only [List.getElem_toArray, List.getElem_cons_succ, List.getElem_cons_zero, Act.put, List.setIfInBounds_toArray, List.set_cons_zero, List.set_cons_succ]
              refine wpAnyH_take (i := 24) (v := ?v24d) rfl (by kernel_rfl) (by kernel_rfl) (by kernel_rfl) (fun _ _ _ h => h) (Or.inl ⟨by rfl, ?y24d⟩) S3 ?r24d
              case y24d => (intro w hSw; clear hSw; go_simp; try with_reducible rfl)
              simp only [List.getElem_toArray, List.getElem_cons_succ, List.getElem_cons_zero, Act.put, List.setIfInBounds_toArray, List.set_cons_zero, List.set_cons_succ]
              refine wpAnyH_done (by kernel_rfl) ?_ _
              dsimp only
              clear S0 S1 S2 S3
              obtain ⟨T, HTe⟩ : ∃ T, Hid (Unit → tOf v ck wk = T) := ⟨_, Lib.hid fun _ => rfl⟩
              rw [HTe.out ()]
              have d0 : wz3.cell? ⟨gv, 0, none⟩ = some (.int .u32 (gt v 0 : Nat)) := HV4.out.cell (i := 0) (by omega)
              have d1 : wz3.cell? ⟨gv, 1, none⟩ = some (.int .u32 (gt v 1 : Nat)) := HV4.out.cell (i := 1) (by omega)
              have d2 : wz3.cell? ⟨gv, 2, none⟩ = some (.int .u32 (gt v 2 : Nat)) := HV4.out.cell (i := 2) (by omega)
              have d3 : wz3.cell? ⟨gv, 3, none⟩ = some (.int .u32 (gt v 3 : Nat)) := HV4.out.cell (i := 3) (by omega)
              have d4 : wz3.cell? ⟨gv, 4, none⟩ = some (.int .u32 (gt v 4 : Nat)) := HV4.out.cell (i := 4) (by omega)
              have d5 : wz3.cell? ⟨gv, 5, none⟩ = some (.int .u32 (gt v 5 : Nat)) := HV4.out.cell (i := 5) (by omega)
              have d6 : wz3.cell? ⟨gv, 6, none⟩ = some (.int .u32 (gt v 6 : Nat)) := HV4.out.cell (i := 6) (by omega)
              have d7 : wz3.cell? ⟨gv, 7, none⟩ = some (.int .u32 (gt v 7 : Nat)) := HV4.out.cell (i := 7) (by omega)
              have HVr := Lib.hid (heap_words HV4.out HOV.out.1)
              have HIc : Hid ((Tryd.prog.info? 49).map (·.size) = some (#[Value.int .u32 ((((T : Nat) : Int) + ((uOf v : Nat) : Int)) % 4294967296), .int .u32 ((gt v 0 : Nat) : Int), .int .u32 ((gt v 1 : Nat) : Int), .int .u32 ((gt v 2 : Nat) : Int), .int .u32 ((((gt v 3 : Nat) : Int) + ((T : Nat) : Int)) % 4294967296), .int .u32 ((gt v 4 : Nat) : Int), .int .u32 ((gt v 5 : Nat) : Int), .int .u32 ((gt v 6 : Nat) : Int)] : Array Value).size) := Lib.hid (by show _ = some 8; kernel_rfl)
              have HZc : Hid ((numsOf .u32 v).size = (#[Value.int .u32 ((((T : Nat) : Int) + ((uOf v : Nat) : Int)) % 4294967296), .int .u32 ((gt v 0 : Nat) : Int), .int .u32 ((gt v 1 : Nat) : Int), .int .u32 ((gt v 2 : Nat) : Int), .int .u32 ((((gt v 3 : Nat) : Int) + ((T : Nat) : Int)) % 4294967296), .int .u32 ((gt v 4 : Nat) : Int), .int .u32 ((gt v 5 : Nat) : Int), .int .u32 ((gt v 6 : Nat) : Int)] : Array Value).size) := Lib.hid (by rw [numsOf_size, HOV.out.1]; rfl)
              have HON : Hid ((#[Value.int .u32 ((((T : Nat) : Int) + ((uOf v : Nat) : Int)) % 4294967296), .int .u32 ((gt v 0 : Nat) : Int), .int .u32 ((gt v 1 : Nat) : Int), .int .u32 ((gt v 2 : Nat) : Int), .int .u32 ((((gt v 3 : Nat) : Int) + ((T : Nat) : Int)) % 4294967296), .int .u32 ((gt v 4 : Nat) : Int), .int .u32 ((gt v 5 : Nat) : Int), .int .u32 ((gt v 6 : Nat) : Int)] : Array Value).all (·.oneCell') = true) := Lib.hid (by simp [Value.oneCell'])
              have HCS : Hid (∀ i, i < 8 → (#[Value.int .u32 ((((T : Nat) : Int) + ((uOf v : Nat) : Int)) % 4294967296), .int .u32 ((gt v 0 : Nat) : Int), .int .u32 ((gt v 1 : Nat) : Int), .int .u32 ((gt v 2 : Nat) : Int), .int .u32 ((((gt v 3 : Nat) : Int) + ((T : Nat) : Int)) % 4294967296), .int .u32 ((gt v 4 : Nat) : Int), .int .u32 ((gt v 5 : Nat) : Int), .int .u32 ((gt v 6 : Nat) : Int)] : Array Value)[i]? = some (wordRow .u32 (round v ck wk) i)) := Lib.hid fun i hi => by
                rw [add_int, add_int, ← HTe.out ()]
                exact eight_round v ck wk i hi
              go_wp2_with (refine wpList_store_row rfl 49 (.tmp 11) (.tmp 181) rfl gv (#[Value.int .u32 ((((T : Nat) : Int) + ((uOf v : Nat) : Int)) % 4294967296), .int .u32 ((gt v 0 : Nat) : Int), .int .u32 ((gt v 1 : Nat) : Int), .int .u32 ((gt v 2 : Nat) : Int), .int .u32 ((((gt v 3 : Nat) : Int) + ((T : Nat) : Int)) % 4294967296), .int .u32 ((gt v 4 : Nat) : Int), .int .u32 ((gt v 5 : Nat) : Int), .int .u32 ((gt v 6 : Nat) : Int)]) rfl rfl 49 (numsOf .u32 v) HVr.out HIc.out HZc.out HON.out ?_)
              have HR5 := Lib.hid (HR4.out.setRow hs1 hkw hgv (#[Value.int .u32 ((((T : Nat) : Int) + ((uOf v : Nat) : Int)) % 4294967296), .int .u32 ((gt v 0 : Nat) : Int), .int .u32 ((gt v 1 : Nat) : Int), .int .u32 ((gt v 2 : Nat) : Int), .int .u32 ((((gt v 3 : Nat) : Int) + ((T : Nat) : Int)) % 4294967296), .int .u32 ((gt v 4 : Nat) : Int), .int .u32 ((gt v 5 : Nat) : Int), .int .u32 ((gt v 6 : Nat) : Int)]))
              have HV5 : Hid ((wz3.setRow gv (#[Value.int .u32 ((((T : Nat) : Int) + ((uOf v : Nat) : Int)) % 4294967296), .int .u32 ((gt v 0 : Nat) : Int), .int .u32 ((gt v 1 : Nat) : Int), .int .u32 ((gt v 2 : Nat) : Int), .int .u32 ((((gt v 3 : Nat) : Int) + ((T : Nat) : Int)) % 4294967296), .int .u32 ((gt v 4 : Nat) : Int), .int .u32 ((gt v 5 : Nat) : Int), .int .u32 ((gt v 6 : Nat) : Int)])).rowIs gv 49 8 (wordRow .u32 (round v ck wk))) := Lib.hid ⟨_, setRow_heap _ _ _ _ _ _ HVr.out, rfl, HCS.out⟩
              generalize wz3.setRow gv (#[Value.int .u32 ((((T : Nat) : Int) + ((uOf v : Nat) : Int)) % 4294967296), .int .u32 ((gt v 0 : Nat) : Int), .int .u32 ((gt v 1 : Nat) : Int), .int .u32 ((gt v 2 : Nat) : Int), .int .u32 ((((gt v 3 : Nat) : Int) + ((T : Nat) : Int)) % 4294967296), .int .u32 ((gt v 4 : Nat) : Int), .int .u32 ((gt v 5 : Nat) : Int), .int .u32 ((gt v 6 : Nat) : Int)]) = W5 at *
              go_roundw
              case rel => exact ⟨k + 1, round v ck wk, by omega, by go_num, HNX, HR5, HV5⟩
              case measure => simp [intOf]; omega
            · obtain rfl : k = 64 := by omega
              have hvv : v = v64 := by rw [← HV.out ()]; exact (HVk.out ()).symm
              subst hvv
              rw [show ((64 : Nat) : Int) = 64 from rfl]
              have HOV := Lib.hid hov
              clear hk hk64 hov HVk HR3 HV3
              go_wp2
              go_loopw [17] (fun i W => ∃ k : Nat, k ≤ 8 ∧ i = .int .i64 k ∧ Hid (RB w W gk gw (sumTo s v k) ws) ∧ Hid (W.rowIs gv 49 8 (wordRow .u32 v))) (fun i _ => 8 - (intOf i).toNat)
              case atStart => exact ⟨0, by omega, rfl, Lib.hid (by rw [sumTo_zero HO.out]; exact HR4.out), HV4⟩
              case round =>
                obtain ⟨k, hk, rfl, HR6, HV6⟩ := hrel
                by_cases hk8 : k < 8
                · have c0 : wr.cell? ⟨w.heap.size, k, none⟩ = some (.int .u32 (gt s k : Nat)) := by rw [HR6.out.st.cell hk8]; unfold wordRow; rw [gt_sumTo hk8]
                  have c1 : wr.cell? ⟨gv, k, none⟩ = some (.int .u32 (gt v k : Nat)) := HV6.out.cell hk8
                  have f0 := HR6.out.st.frozen k
                  have hadd := add_int (gt s k) (gt v k)
                  have y8 : (k : Int) < 8 := by omega
                  have HSU := Lib.hid (fun _ : Unit => sumTo_succ (s := s) (v := v) hk8)
                  have HOS := Lib.hid (ok_sumTo (v := v) HO.out k)
                  generalize sumTo s v k = sk at *
                  go_wp2
                  go_region
                  go_wp2
                  go_roundw
                  case rel => exact ⟨k + 1, by omega, by go_num, Lib.hid (by rw [← HSU.out ()]; exact (HR6.out.setSt hs1 hkw HOS.out.1 k _ hk8 rfl rfl).drew), Lib.hid (HV6.out.setOther (by show gv ≠ w.heap.size; omega) _).drew⟩
                  case measure => simp [intOf]; omega
                · obtain rfl : k = 8 := by omega
                  rw [HOUT.out ()] at HR6
                  have hlo : out.length = 8 := by rw [← HOUT.out ()]; exact (ok_sumTo HO.out 8).1
                  have HIo : Hid ((Tryd.prog.info? 49).map (·.size) = some (numsOf .u32 out).size) := Lib.hid (by rw [numsOf_size, hlo]; kernel_rfl)
                  have HZo := Lib.hid (show (numsOf .u32 (tab 8 fun _ => 0)).size = (numsOf .u32 out).size by rw [numsOf_size, numsOf_size, hlo, tab_len])
                  have HSo := Lib.hid (heap_words HR6.out.st hlo)
                  have HRo := Lib.hid (heap_words HR6.out.res (tab_len _ _))
                  go_wp2_with (first | (refine wpList_load_row rfl 49 (.tmp 2) rfl w.heap.size rfl 49 (numsOf .u32 out) (0, 0) _ HSo.out Tryd.underlying49 rfl HIo.out ?_) | (refine wpList_store_row rfl 49 (.tmp 4) (.tmp 195) rfl (w.heap.size + 1) (numsOf .u32 out) rfl rfl 49 (numsOf .u32 (tab 8 fun _ => 0)) HRo.out HIo.out HZo.out (numsOf_one _ _) ?_))
                  refine bodyPost_ret (v := .agg (numsOf .u32 out)) (results_cell_row (p := 4) (ty := 49) (by kernel_rfl) _ _ (w.heap.size + 1) 49 (numsOf .u32 out) (0, 0) _ rfl (setRow_heap _ _ _ _ _ _ HRo.out) Tryd.underlying49 rfl HIo.out) rfl ⟨rfl, below_setRow HR6.out.bel (by omega) _⟩

theorem rblock_any (s b : List Nat) (ad : Addr) (c : Nat) (w : World) (hO : Ok 4294967296 8 s) (hB : Ok 256 64 b) (had : ad.block < w.heap.size) (hc : ∀ j, j < 64 → w.cell? (ad.add j) = some (.int .u8 (gt b j : Nat))) :
    Calls Tryd.prog 33 #[.agg (numsOf .u32 s), .slice (some ad) 64 c] w fun e w' => e = .returned (.agg (numsOf .u32 (change s b))) ∧ Below w.heap.size w w' := by
  refine rblock_to s b ad c w _ _ _ hO hB had hc (Lib.hid fun _ => rfl) (Lib.hid fun _ => rfl) (Lib.hid fun _ => ?_)
  rw [firstTo_all hB]; rfl
end Go.Proofs.YtfcnhendebjjeaaDoor.Sha
