/- Walks: the laws' Leaf. Plain: the trees of the laws' head. Walks: the laws' head, its two Adds. -/
import Derived.Test.YtakglldffpnlaaaGreatDoorRtWalkS
namespace Go.Proofs.YtakglldffpnlaaaGreatDoor.Rt
set_option linter.all false
open Go.RowKit
open Wr (Txt Any New byteRow)

def zs (n : Nat) : List Nat := List.replicate n 0
theorem zs_len (n : Nat) : (zs n).length = n := List.length_replicate
theorem gt_zs (n j : Nat) : Wr.gt (zs n) j = 0 := by
  unfold Wr.gt zs
  rw [List.getD_eq_getElem?_getD, List.getElem?_replicate]
  split <;> rfl
/-- the laws' leaf of a number -/
def leafN (b : Nat) : Nd := ⟨1, b :: zs 1183, b :: zs 1951, [b], [], []⟩
theorem leafN_right (b : Nat) : LeafR (leafN b) := ⟨rfl, (by show (zs 1183).length + 1 = 1184; rw [zs_len]), (by show (zs 1951).length + 1 = 1952; rw [zs_len]), ⟨Nat.le_refl _, (by show 1 ≤ 16; decide)⟩, .inl rfl, rfl⟩
def leafQ (B b : Nat) : NdQ := ⟨1, some ⟨B + 1, 0, none⟩, 1184, 1184, some ⟨B + 1 + 1, 0, none⟩, 1952, 1952, some ⟨B + 1 + 1 + 1, 0, none⟩, 1, 1, none, 0, 0, none, 0, 0⟩
theorem row_head {w : World} {B n b : Nat} (h : w.rowIs B 5 (n + 1) (fun i => if i = 0 then .int .u8 b else .int .u8 0)) : w.rowIs B 5 (n + 1) (byteRow (b :: zs n)) :=
  h.congr fun i hi => by
    cases i with
    | zero => rfl
    | succ i =>
      show Value.int .u8 0 = Value.int .u8 ((Wr.gt (zs n) i : Nat) : Int)
      rw [gt_zs]; rfl
theorem bytes_head (b n : Nat) (hb : b < 256) : ∀ j, Wr.gt (b :: zs n) j < 256 := fun j => by
  cases j with
  | zero => exact hb
  | succ j => show Wr.gt (zs n) j < 256; rw [gt_zs]; decide

set_option maxHeartbeats 1000000 in
set_option maxRecDepth 100000 in
theorem leaf_any (b : Nat) (hb : b < 256) (w : World) : Calls Tryz.prog 20 #[.int .u8 b] w fun e w' => ∃ q, e = .returned (.agg q.cs) ∧ NdIs Any w' q (leafN b) ∧ NdFar (fun b => w.heap.size ≤ b) q ∧ Below w.heap.size w w' := by
  have hmk1 : ∀ W, (Instr.makeSlice 25 (.int .i64 1184) (.int .i64 1184)).run Tryz.prog W = .ok (.slice (some ⟨W.heap.size, 0, none⟩) 1184 1184) (W.alloc (.cells (madeCells #[Value.int IntKind.u8 0] 1184) 5)) := fun W => run_make_row' (P := Tryz.prog) 25 5 (.int .u8 0) 1 Tryz.underlying25 (by kernel_rfl) rfl .i64 .i64 1184 (by omega) (by omega) W
  have hmk2 : ∀ W, (Instr.makeSlice 25 (.int .i64 1952) (.int .i64 1952)).run Tryz.prog W = .ok (.slice (some ⟨W.heap.size, 0, none⟩) 1952 1952) (W.alloc (.cells (madeCells #[Value.int IntKind.u8 0] 1952) 5)) := fun W => run_make_row' (P := Tryz.prog) 25 5 (.int .u8 0) 1 Tryz.underlying25 (by kernel_rfl) rfl .i64 .i64 1952 (by omega) (by omega) W
  obtain ⟨W1, hW1⟩ : ∃ W1, w.alloc (.cells zeroQ.cs 28) = W1 := ⟨_, rfl⟩
  obtain ⟨W2, hW2⟩ : ∃ W2, W1.alloc (.cells (madeCells #[Value.int IntKind.u8 0] 1184) 5) = W2 := ⟨_, rfl⟩
  obtain ⟨W3, hW3⟩ : ∃ W3, W2.alloc (.cells (madeCells #[Value.int IntKind.u8 0] 1952) 5) = W3 := ⟨_, rfl⟩
  have s1 : W1.heap.size = w.heap.size + 1 := by rw [← hW1, World.size_alloc]
  have s2 : W2.heap.size = w.heap.size + 1 + 1 := by rw [← hW2, World.size_alloc, s1]
  have s3 : W3.heap.size = w.heap.size + 1 + 1 + 1 := by rw [← hW3, World.size_alloc, s2]
  have b1 : Below w.heap.size w W1 := by rw [← hW1]; exact below_one _ _
  have b2 : Below W1.heap.size W1 W2 := by rw [← hW2]; exact below_one _ _
  have b3 : Below W2.heap.size W2 W3 := by rw [← hW3]; exact below_one _ _
  have B3 := Lib.hid (b1.trans ((b2.trans (b3.mono (by omega))).mono (by omega)))
  have r1 : W2.rowIs (w.heap.size + 1) 5 1184 (fun _ => .int .u8 0) := by rw [← hW2, ← s1]; exact World.rowIs_made W1 (.int .u8 0) 1184 5
  have r2 : W3.rowIs (w.heap.size + 1 + 1) 5 1952 (fun _ => .int .u8 0) := by rw [← hW3, ← s2]; exact World.rowIs_made W2 (.int .u8 0) 1952 5
  have r1' := r1.of_block (b3.block _ r1.lt)
  have HZ : Hid (W3.heap[w.heap.size]? = some (.cells zeroQ.cs 28 (0, 0))) := Lib.hid ((b3.block _ (by omega)).trans ((b2.block _ (by omega)).trans (by rw [← hW1]; exact heap_alloc_last _ _)))
  have R1 := Lib.hid r1'; have R2 := Lib.hid r2
  have HB := Lib.hid hb
  have S3 := Lib.hid s3
  have hr1 := r1.lt
  have hr2 := r2.lt
  have c1 := r1'.cell (i := 0) (by omega); have f1 := r1'.frozen 0
  obtain ⟨W4, hW4⟩ : ∃ W4, W3.setCell ⟨w.heap.size + 1, 0, none⟩ (.int .u8 b) = W4 := ⟨_, rfl⟩
  have k1 : W4.rowIs (w.heap.size + 1) 5 1184 (byteRow (b :: zs 1183)) := by
    rw [← hW4]
    exact row_head ((r1'.set 0 _).congr fun i hi => by cases i <;> rfl)
  have k2 : W4.rowIs (w.heap.size + 1 + 1) 5 1952 (fun _ => .int .u8 0) := by rw [← hW4]; exact r2.of_block (Below.heap_setCell W3 _ _ _ (by show w.heap.size + 1 + 1 ≠ w.heap.size + 1; omega))
  have c2 := k2.cell (i := 0) (by omega); have f2 := k2.frozen 0
  obtain ⟨W5, hW5⟩ : ∃ W5, W4.setCell ⟨w.heap.size + 1 + 1, 0, none⟩ (.int .u8 b) = W5 := ⟨_, rfl⟩
  have k3 : W5.rowIs (w.heap.size + 1 + 1) 5 1952 (byteRow (b :: zs 1951)) := by
    rw [← hW5]
    exact row_head ((k2.set 0 _).congr fun i hi => by cases i <;> rfl)
  have k4 : W5.rowIs (w.heap.size + 1) 5 1184 (byteRow (b :: zs 1183)) := by rw [← hW5]; exact k1.of_block (Below.heap_setCell W4 _ _ _ (by show w.heap.size + 1 ≠ w.heap.size + 1 + 1; omega))
  obtain ⟨W6, hW6⟩ : ∃ W6, W5.alloc (.cells #[.int .u8 b] 5) = W6 := ⟨_, rfl⟩
  have s4 : W4.heap.size = w.heap.size + 1 + 1 + 1 := by rw [← hW4]; simpa [World.setCell] using s3
  have s5 : W5.heap.size = w.heap.size + 1 + 1 + 1 := by rw [← hW5]; simpa [World.setCell] using s4
  have b6 : Below W5.heap.size W5 W6 := by rw [← hW6]; exact below_one _ _
  have k5 : W6.rowIs (w.heap.size + 1 + 1 + 1) 5 1 (byteRow [b]) := by
    rw [← hW6, ← s5]
    exact (World.rowIs_alloc W5 #[.int .u8 b] 5 (byteRow [b]) fun i hi => by obtain rfl : i = 0 := (by simp at hi; omega); rfl)
  have K5 := Lib.hid k5
  have K3 := Lib.hid (k3.of_block (b6.block _ k3.lt)); have K4 := Lib.hid (k4.of_block (b6.block _ k4.lt))
  have HZ6 : Hid (W6.heap[w.heap.size]? = some (.cells zeroQ.cs 28 (0, 0))) := Lib.hid (by
    rw [b6.block _ (by omega), ← hW5, Below.heap_setCell W4 _ _ _ (by show w.heap.size ≠ w.heap.size + 1 + 1; omega), ← hW4, Below.heap_setCell W3 _ _ _ (by show w.heap.size ≠ w.heap.size + 1; omega)]
    exact HZ.out)
  have B6 : Hid (Below w.heap.size w W6) := Lib.hid (by
    have h4 := B3.out.setCell (p := ⟨w.heap.size + 1, 0, none⟩) (by show w.heap.size ≤ w.heap.size + 1; omega) (.int .u8 b)
    rw [hW4] at h4
    have h5 := h4.setCell (p := ⟨w.heap.size + 1 + 1, 0, none⟩) (by show w.heap.size ≤ w.heap.size + 1 + 1; omega) (.int .u8 b)
    rw [hW5] at h5
    exact h5.trans (b6.mono (by omega)))
  clear b1 b2 b3 r1 r2 r1' hb k1 k2 k3 k4 k5 b6 hr1 hr2
  dsimp only [zeroQ, NdQ.cs] at hW1
  go_enter Tryz.func20, Tryz.ntmps20
  go_wp2_with (refine wpList_store_row rfl 28 (.tmp 2) (.tmp 17) rfl w.heap.size (leafQ w.heap.size b).cs rfl rfl 28 zeroQ.cs HZ6.out (nd_sized _) rfl (nd_all _) ?_)
  have hz := setRow_heap W6 w.heap.size _ (leafQ w.heap.size b).cs 28 _ HZ6.out
  refine bodyPost_ret (v := .agg (leafQ w.heap.size b).cs) (results_cell_row (p := 2) (ty := 28) (by kernel_rfl) _ _ w.heap.size 28 _ (0, 0) _ rfl hz Tryz.underlying28 rfl (nd_sized _)) rfl ?_
  have hw : ∀ k, k ≠ w.heap.size → (W6.setRow w.heap.size (leafQ w.heap.size b).cs).heap[k]? = W6.heap[k]? := fun k hk => setRow_other W6 _ k _ hk
  have t4 := Txt.of_row (base := 0) (K4.out.of_block (hw _ (by omega))) (by show (zs 1183).length + 1 = 1184; rw [zs_len]) (bytes_head b 1183 HB.out) (Nat.zero_le _) (by omega)
  have t3 := Txt.of_row (base := 0) (K3.out.of_block (hw _ (by omega))) (by show (zs 1951).length + 1 = 1952; rw [zs_len]) (bytes_head b 1951 HB.out) (Nat.zero_le _) (by omega)
  have t5 := Txt.of_row (base := 0) (K5.out.of_block (hw _ (by omega))) rfl (bytes_head b 0 HB.out) (Nat.zero_le _) (by omega)
  have hnf : NdFar (fun b => w.heap.size ≤ b) (leafQ w.heap.size b) := ⟨fun _ ad e => (by injection e with e; subst e; show w.heap.size ≤ w.heap.size + 1; omega), fun _ ad e => (by injection e with e; subst e; show w.heap.size ≤ w.heap.size + 1 + 1; omega), fun _ ad e => (by injection e with e; subst e; show w.heap.size ≤ w.heap.size + 1 + 1 + 1; omega), fun h => absurd h (by show ¬ 0 < 0; omega), fun h => absurd h (by show ¬ 0 < 0; omega)⟩
  exact ⟨leafQ w.heap.size b, rfl, ⟨rfl, t4.any, t3.any, t5.any, Txt.nil _ _, Ints.nil _ _⟩, hnf, below_setRow B6.out (Nat.le_refl _) _⟩
end Go.Proofs.YtakglldffpnlaaaGreatDoor.Rt

namespace Go.Proofs.YtakglldffpnlaaaGreatDoor.Rt
set_option linter.all false

def yN : List Nd := [leafN 1, blank, leafN 2]
theorem right_t : Right [blank] 0 := ⟨by omega, rfl, fun l p hl hp => by
  obtain rfl : l = 0 := by omega
  obtain rfl : p = 0 := by simpa using hp
  exact .bl rfl⟩
theorem right_x : Right [leafN 1] 0 := ⟨by omega, rfl, fun l p hl hp => by
  obtain rfl : l = 0 := by omega
  obtain rfl : p = 0 := by simpa using hp
  exact .lf rfl (leafN_right 1)⟩
theorem right_y : Right yN 1 := ⟨by omega, rfl, fun l p hl hp => by
  rcases Nat.lt_or_ge l 1 with h | h
  · obtain rfl : l = 0 := by omega
    rcases Nat.lt_or_ge p 1 with h2 | h2
    · obtain rfl : p = 0 := by omega
      exact .lf rfl (leafN_right 1)
    · obtain rfl : p = 1 := by have : p < 2 := hp; omega
      exact .lf rfl (leafN_right 2)
  · obtain rfl : l = 1 := by omega
    obtain rfl : p = 0 := by simpa using hp
    exact .bl rfl⟩
theorem add_x : firstB [blank] 0 = 0 ∧ addD [blank] 0 = 0 ∧ addF [blank] 0 (leafN 1) = [leafN 1] := ⟨rfl, rfl, rfl⟩
theorem add_y : firstB [leafN 1] 0 = 1 ∧ addD [leafN 1] 0 = 1 ∧ addF [leafN 1] 0 (leafN 2) = yN := ⟨rfl, rfl, rfl⟩
theorem res_y : resT (1 : Nat) yN (some (1, 0)) = [0, 2] := by rw [resT_yes right_y (by omega) (by decide)]; rfl
theorem leaves_y : leavesT (1 : Nat) yN = [0, 1] := by
  rw [leavesT_yes right_y]; rfl
theorem sum_y : (sumT (1 : Nat) yN (some (1, 0))).length = 32 := by
  rw [sumT_yes right_y (by omega) (by decide)]
  exact Sha.sumOf_len _
end Go.Proofs.YtakglldffpnlaaaGreatDoor.Rt

namespace Go.Proofs.YtakglldffpnlaaaGreatDoor.Rt
set_option linter.all false
open Go.RowKit Iter
open Wr (Txt Any New)
attribute [local go_sem] Oper.semAt_some

theorem NdFar.and {S T : Nat → Prop} {q : NdQ} (h : NdFar S q) (k : NdFar T q) : NdFar (fun b => S b ∧ T b) q :=
  ⟨fun a ad e => ⟨h.f1 a ad e, k.f1 a ad e⟩, fun a ad e => ⟨h.f2 a ad e, k.f2 a ad e⟩, fun a ad e => ⟨h.f3 a ad e, k.f3 a ad e⟩, fun a ad e => ⟨h.f4 a ad e, k.f4 a ad e⟩, fun a ad e => ⟨h.f5 a ad e, k.f5 a ad e⟩⟩
theorem OwnN.near {S : Nat → Prop} {w : World} {base g n c : Nat} {ns : List Nd} (h : OwnN S w base g n c ns) : OwnN (fun b => S b ∧ b < w.heap.size) w base g n c ns := by
  obtain ⟨h0, qs, h1, h2, h3, h4⟩ := h
  exact ⟨fun b hb => h0 b hb.1, qs, h1, h2, h3, fun j q hq => ⟨(h4 j q hq).1, (h4 j q hq).2.and (h4 j q hq).1.far⟩⟩
theorem OwnN.farN {S : Nat → Prop} {w : World} {base g n c : Nat} {ns : List Nd} (h : OwnN S w base g n c ns) : ∀ ad, Option.some (⟨g, 0, none⟩ : Addr) = Option.some ad → ∀ j q, j < n → NdAt w (ad.add (j * 6)) q → NdFar S q := fun ad e j q hj hat => by
  injection e with e
  subst e
  rw [addr_zero] at hat
  obtain ⟨q', h1, _, h3⟩ := h.at j hj
  rw [at_one hat h1]
  exact h3

/-- one Add of head's: the tree and the leaf are known, the leaf lies apart from a block that is made meanwhile, and so does what comes of it -/
theorem head_add (d : Nat) (ns : List Nd) (b : Nat) (d2 f2 N N2 : Nat) (ns2 : List Nd) (hx : firstB ns d = f2 ∧ addD ns d = d2 ∧ addF ns d (leafN b) = ns2) (hr : Right ns d) (h2 : d2 ≤ 6) (hN2 : 2 ^ (d2 + 1) - 1 = N2)
    (g bs B : Nat) (q : NdQ) (w : World) (hO : OwnN (fun x => x ≠ g ∧ x ≠ B) w bs g N N ns) (hq : NdIs Any w q (leafN b)) (hf : NdFar (fun x => x ≠ B) q) (hT : Tabs w) (hB : B < w.heap.size ∨ w.heap.size ≤ B) :
    Calls Tryz.prog 9 #[.agg #[.int .i64 d, .slice (some ⟨g, 0, none⟩) N N], .agg q.cs] w fun e w' => ∃ g2 bs2, e = .returned (.tuple #[.agg #[.int .i64 d2, .slice (some ⟨g2, 0, none⟩) N2 N2], .int .i64 f2, .int .i64 0]) ∧ w.heap.size ≤ g2 ∧ OwnN (fun x => x ≠ g2 ∧ (B < w.heap.size → x ≠ B) ∧ x < w'.heap.size) w' bs2 g2 N2 N2 ns2 ∧ Below w.heap.size w w' := by
  obtain ⟨x1, x2, x3⟩ := hx
  have h := add_yesS (fun x => x ≠ B ∧ x < w.heap.size) d (some ⟨g, 0, none⟩) N N ns q (leafN b) w hO.nodes.any hq (fun _ h => h.2) (hO.near.mono (S' := fun x => x ≠ g ∧ x ≠ B ∧ x < w.heap.size) (fun x hx => ⟨hx.1.1, hx.1.2, hx.2⟩) (fun x hx => hx.1) |>.farN |> fun f ad e j q hj hat => (f ad e j q hj hat).mono fun x hx => hx.2) (hf.and hq.far) hT hr (leafN_right b) (by rw [x2]; exact h2)
  rw [x1, x2, x3, hN2] at h
  refine h.mono ?_
  rintro e w' ⟨g2, rfl, ⟨bs2, h3, h4⟩, h5⟩
  refine ⟨g2, bs2, rfl, Nat.le_trans h3 h4.lt.1, h4.near.mono (fun x hx => ⟨fun e => h4.1 x hx.1 e, fun hb => ?_, hx.2⟩) (fun x hx => hx.1), h5⟩
  rcases hx.1 with h | h
  · exact h.1
  · omega
end Go.Proofs.YtakglldffpnlaaaGreatDoor.Rt
