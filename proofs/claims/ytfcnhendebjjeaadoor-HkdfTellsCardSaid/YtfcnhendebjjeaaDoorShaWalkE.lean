/- Walks: endOf, told. -/
import Derived.Test.YtfcnhendebjjeaaDoorShaOwn
import Derived.IntWalk
namespace Go.Proofs.YtfcnhendebjjeaaDoor.Sha
set_option linter.all false
open Go.RowKit

def endRow (n k : Nat) : Nat → Value := fun j => .int .u8 ((endAt n k j : Nat) : Int)
theorem end_byte (n k L d : Nat) (hL : L = endLen n) (hd : d + k + 1 = L) : n * 8 / 2 ^ (8 * k) % 256 = endAt n (k + 1) d := by
  unfold endAt
  rw [← hL, if_pos (by omega), show L - 1 - d = k by omega]
theorem endRow_succ {w : World} {h n k L d : Nat} (hR : w.rowIs h 5 L (endRow n k)) (hL : L = endLen n) (hd : d + k + 1 = L) {z : Int} (hz : z = ((n * 8 / 2 ^ (8 * k) % 256 : Nat) : Int)) :
    (w.setCell ⟨h, d, none⟩ (.int .u8 z)).rowIs h 5 L (endRow n (k + 1)) := by
  subst hz
  refine (hR.set d _).congr fun j hj => ?_
  by_cases e : j = d
  · subst e; rw [if_pos rfl, end_byte n k L j hL hd]; rfl
  · rw [if_neg e]
    by_cases h1 : L - k ≤ j
    · simp only [endRow, endAt, ← hL, if_pos h1, if_pos (show L - (k + 1) ≤ j by omega)]
    · simp only [endRow, endAt, ← hL, if_neg h1, if_neg (show ¬ L - (k + 1) ≤ j by omega)]
theorem endRow_start {w : World} {h n L : Nat} (hR : w.rowIs h 5 L fun _ => .int .u8 0) (hL : L = endLen n) : (w.setCell ⟨h, 0, none⟩ (.int .u8 128)).rowIs h 5 L (endRow n 0) := by
  refine (hR.set 0 _).congr fun j hj => ?_
  have h1 : ¬ L - 0 ≤ j := by omega
  by_cases e : j = 0
  · simp only [endRow, endAt, ← hL, if_neg h1, if_pos e]; rfl
  · simp only [endRow, endAt, ← hL, if_neg h1, if_neg e]; rfl
theorem endRow_all {w : World} {h n L : Nat} (hR : w.rowIs h 5 L (endRow n 8)) (hL : L = endLen n) : w.rowIs h 5 L (byteRow (endL n)) := by
  refine hR.congr fun j hj => ?_
  unfold endRow byteRow wordRow endL
  rw [gt_tab _ _ _ (by omega)]

set_option maxHeartbeats 1000000 in
set_option maxRecDepth 100000 in
theorem end_any (n : Nat) (w : World) (hn : n ≤ 1152921504606846976) :
    Calls Tryd.prog 40 #[.int .u64 n] w fun e w' => e = .returned (.slice (some ⟨w.heap.size, 0, none⟩) (endLen n) (endLen n)) ∧ w'.rowIs w.heap.size 5 (endLen n) (byteRow (endL n)) ∧ Below w.heap.size w w' ∧ w.heap.size < w'.heap.size := by
  obtain ⟨q, hq, hq'⟩ : ∃ q : Nat, q = (n + 9) % 64 ∧ q < 64 := ⟨_, rfl, by omega⟩
  obtain ⟨z, hz, hz'⟩ : ∃ z : Nat, z = (64 - q) % 64 ∧ z < 64 := ⟨_, rfl, by omega⟩
  obtain ⟨L, hL, hL9, hL72, hLz, hLz'⟩ : ∃ L : Nat, L = endLen n ∧ 9 ≤ L ∧ L ≤ 72 ∧ L ≤ 1 + z + 8 ∧ 1 + z + 8 ≤ L := ⟨endLen n, rfl, endLen_ge n, endLen_le n, by unfold endLen; omega, by unfold endLen; omega⟩
  rw [← hL]
  have e1 : ((n : Int) + 1 + 8) % 64 = (q : Int) := by omega
  have e1' : ((n : Int) + 9) % 64 = (q : Int) := by omega
  have e2 : (64 - (q : Int)) % 64 = (z : Int) := by omega
  have e3 : 1 + (z : Int) + 8 = (L : Int) := by omega
  have e4 : IntKind.u64.wrap (1 + (z : Int) + 8) = (L : Int) := by rw [IntKind.wrap_u64]; omega
  have HL := Lib.hid (fun _ : Unit => hL); clear hL hq hz hLz hLz'
  have hmk := fun W => run_make_row' (P := Tryd.prog) 22 5 (.int .u8 0) 1 Tryd.underlying22 (by kernel_rfl) rfl .u64 .u64 L (by omega) (by omega) W
  have d0 := (World.rowIs_made w (.int .u8 0) L 5).cell (i := 0) (by omega)
  have d1 := (World.rowIs_made w (.int .u8 0) L 5).frozen 0
  have y0 : (0 : Int) < (L : Int) := by omega
  go_enter Tryd.func40, Tryd.ntmps40
  go_wp2
  have HR0 := Lib.hid (endRow_start (World.rowIs_made w (.int .u8 0) L 5) (HL.out ()))
  have HB0 := Lib.hid ((Below.refl w.heap.size w).alloc (Nat.le_refl _) (.cells ((madeCells #[Value.int IntKind.u8 0] L).setIfInBounds 0 (Value.int IntKind.u8 128)) 5))
  rw [World.setCell_alloc_new] at HR0
  generalize w.alloc (.cells ((madeCells #[Value.int IntKind.u8 0] L).setIfInBounds 0 (Value.int IntKind.u8 128)) 5) = W0 at *
  clear d0 d1 y0 hmk e1 e1' e2 e3 e4
  go_loopw [23] (fun i W => ∃ k : Nat, k ≤ 8 ∧ i = .int .i64 k ∧ Hid (W.rowIs w.heap.size 5 L (endRow n k)) ∧ Hid (Below w.heap.size w W)) (fun i _ => 8 - (intOf i).toNat)
  case atStart => exact ⟨0, by omega, rfl, HR0, HB0⟩
  case round =>
    obtain ⟨k, hk, rfl, HR1, HB1⟩ := hrel
    by_cases hk8 : k < 8
    · obtain ⟨d, hd, hd', hdL⟩ : ∃ d : Nat, d + k + 1 ≤ L ∧ L ≤ d + k + 1 ∧ d < L := ⟨L - 1 - k, by omega, by omega, by omega⟩
      have x1 : (L : Int) - 1 - (k : Int) = (d : Int) := by omega
      have x2 : IntKind.i64.wrap ((L : Int) - 1 - (k : Int)) = (d : Int) := by rw [IntKind.wrap_i64]; omega
      have c0 := HR1.out.cell (i := d) hdL
      have f0 := HR1.out.frozen d
      have yd : (d : Int) < (L : Int) := by omega
      have yk : (k : Int) < 8 := by omega
      go_wp2
      go_roundw
      case rel => exact ⟨k + 1, by omega, by go_num, Lib.hid (endRow_succ HR1.out (HL.out ()) (by omega) (by simp)), Lib.hid (HB1.out.setCell (Nat.le_refl _) _)⟩
      case measure => simp [intOf]; omega
    · obtain rfl : k = 8 := by omega
      go_wp2
      go_ret
      exact ⟨rfl, endRow_all HR1.out (HL.out ()), HB1.out, HR1.out.lt⟩

/-- a word's four bytes, built -/
theorem built_rd (w : World) (x : Nat) (hx : x < 4294967296) {B : Nat} (hB : w.heap.size < B) :
    Rd (w.alloc (.cells #[.int .u8 ((x : Int) / 16777216), .int .u8 ((x : Int) / 65536 % 256), .int .u8 ((x : Int) / 256 % 256), .int .u8 ((x : Int) % 256)] 5)) B (some ⟨w.heap.size, 0, none⟩) (wbytes x) := by
  refine ⟨gt_lt_of_mem (wbytes_lt x), fun _ => ⟨_, rfl, hB, fun j hj => ?_⟩⟩
  have ha : (⟨w.heap.size, 0, none⟩ : Addr).add j = ⟨w.heap.size, j, none⟩ := by unfold Addr.add; split <;> simp_all
  rw [ha, cell_of_row _ _ j _ 5 (0, 0) (heap_alloc_last w _)]
  have hj4 : j < 4 := hj
  match j, hj4 with
  | 0, _ => rw [wbytes, gt_cons_zero]; simp; omega
  | 1, _ => rw [wbytes, show (1 : Nat) = 0 + 1 from rfl, gt_cons_succ, gt_cons_zero]; simp
  | 2, _ => rw [wbytes, show (2 : Nat) = 0 + 1 + 1 from rfl, gt_cons_succ, gt_cons_succ, gt_cons_zero]; simp
  | 3, _ => rw [wbytes, show (3 : Nat) = 0 + 1 + 1 + 1 from rfl, gt_cons_succ, gt_cons_succ, gt_cons_succ, gt_cons_zero]; simp
  | n + 4, h => omega

set_option maxHeartbeats 1000000 in
set_option maxRecDepth 100000 in
theorem told_to (g : Nat) (s : Hs) (out : List Nat) (w : World) (hS : HsAt w g s) (hO : Ok 4294967296 8 s.st) (HO : Hid (Unit → toldTo s.st 8 = out)) :
    Calls Tryd.prog 41 #[.pointer (some ⟨g, 0, none⟩)] w fun e w' => ∃ h cap, e = .returned (.slice (some ⟨h, 0, none⟩) 32 cap) ∧ w'.ownsRow w.heap.size 5 1 (.slice (some ⟨h, 0, none⟩) 32 cap) 32 (bcells out) ∧ Below w.heap.size w w' := by
  have hlt := hS.lt
  have HS := Lib.hid hS; have HOS := Lib.hid hO; clear hS hO
  obtain ⟨i, hi, hz, hsz, hby⟩ := byteInfo
  obtain ⟨W0, hmk, hown0, hgr0⟩ := run_make_own (P := Tryd.prog) w w.heap.size 22 5 i (.int .u8 0) 1 Tryd.underlying22 hi hz hsz .i64 .i64 32 (by rw [hby]; omega) (by unfold maxLen; omega) (Nat.le_refl _)
  have hmk' : (Instr.makeSlice 22 (.int .i64 0) (.int .i64 32)).run Tryd.prog w = .ok (.slice (some ⟨w.heap.size, 0, none⟩) 0 32) W0 := hmk
  have HOWN0 : Hid (W0.ownsRow w.heap.size 5 1 (.slice (some ⟨w.heap.size, 0, none⟩) 0 32) 0 (bcells [])) := Lib.hid hown0
  have HB0 : Hid (Below w.heap.size w W0) := Lib.hid ⟨hgr0.os, hgr0.tape, hgr0.output, hgr0.size, fun i hi => hgr0.block i hi (by simp)⟩
  clear hown0 hgr0 hi hz hsz hby hmk
  go_enter Tryd.func41, Tryd.ntmps41
  go_wp2
  go_loopw [3, 8] (fun v i W => ∃ (k h n cap : Nat), k ≤ 8 ∧ i = .int .i64 k ∧ n ≤ 4 * k ∧ 4 * k ≤ n ∧ v = .slice (some ⟨h, 0, none⟩) n cap ∧ Hid (W.ownsRow w.heap.size 5 1 (.slice (some ⟨h, 0, none⟩) n cap) n (bcells (toldTo s.st k))) ∧ Hid (Below w.heap.size w W)) (fun _ i _ => 8 - (intOf i).toNat)
  case atStart => exact ⟨0, w.heap.size, 0, 32, by omega, rfl, by omega, by omega, rfl, HOWN0, HB0⟩
  case round =>
    obtain ⟨k, h, n, cap, hk, rfl, hn, hn', rfl, HOWN1, HB1⟩ := hrel
    by_cases hk8 : k < 8
    · have c0 : wr.cell? ⟨g, k, none⟩ = some (.int .u32 (gt s.st k : Nat)) := by rw [HB1.out.cell (by exact hlt)]; exact HS.out.st k hk8
      have hx := HOS.out.2 k
      have hsucc : Hid (Unit → toldTo s.st (k + 1) = toldTo s.st k ++ wbytes (gt s.st k)) := Lib.hid fun _ => rfl
      generalize toldTo s.st k = xs at *
      generalize gt s.st k = x at *
      have yk : (k : Int) < 8 := by omega
      have HX := Lib.hid hx; clear hx
      have HOWN2 := Lib.hid (HOWN1.out.alloc (.cells #[.int .u8 ((x : Int) / 16777216), .int .u8 ((x : Int) / 65536 % 256), .int .u8 ((x : Int) / 256 % 256), .int .u8 ((x : Int) % 256)] 5))
      have HRD := Lib.hid (built_rd wr x HX.out (B := wr.heap.size + 1) (by omega))
      have HB2 := Lib.hid (HB1.out.alloc HB1.out.size (.cells #[.int .u8 ((x : Int) / 16777216), .int .u8 ((x : Int) / 65536 % 256), .int .u8 ((x : Int) / 256 % 256), .int .u8 ((x : Int) % 256)] 5))
      have hx := HX.out
      go_wp2_with (at_builtin; refine wpList_append_rd rfl (.tmp 13) (.tmp 25) rfl w.heap.size h n cap 4 4 (wr.heap.size + 1) xs (wbytes x) (some ⟨wr.heap.size, 0, none⟩) rfl rfl HOWN2.out HRD.out rfl (fun e => by cases e) (by omega) HB2.out.size ?_)
      intro g' cap' W2 hown hgrow hat
      have hh : w.heap.size ≤ h := (HOWN1.out.lt h rfl).1
      have HOWN3 := Lib.hid hown; have HB3 := Lib.hid (below_of_only HB2.out hgrow hh); clear hown hgrow hat
      go_wp2
      go_roundw
      case rel => exact ⟨k + 1, g', n + 4, cap', by omega, by go_num, by omega, by omega, rfl, Lib.hid (by rw [hsucc.out ()]; exact HOWN3.out), HB3⟩
      case measure => simp [intOf]; omega
    · obtain rfl : k = 8 := by omega
      obtain rfl : n = 32 := by omega
      go_wp2
      go_ret
      exact ⟨h, cap, rfl, by rw [← HO.out ()]; exact HOWN1.out, HB1.out⟩
theorem told_any (g : Nat) (s : Hs) (w : World) (hS : HsAt w g s) (hO : Ok 4294967296 8 s.st) :
    Calls Tryd.prog 41 #[.pointer (some ⟨g, 0, none⟩)] w fun e w' => ∃ h cap, e = .returned (.slice (some ⟨h, 0, none⟩) 32 cap) ∧ w'.ownsRow w.heap.size 5 1 (.slice (some ⟨h, 0, none⟩) 32 cap) 32 (bcells (told s.st)) ∧ Below w.heap.size w w' :=
  told_to g s _ w hS hO (Lib.hid fun _ => rfl)

end Go.Proofs.YtfcnhendebjjeaaDoor.Sha
