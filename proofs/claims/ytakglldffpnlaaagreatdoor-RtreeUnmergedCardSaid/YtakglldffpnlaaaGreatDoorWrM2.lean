/- Walks: lengthAt. Walks: textAt, Clone, GetText. Walks: rows of texts of one's own; textsOf, GetList. Walks: GetList, List. Walks: head, great. -/
import Derived.Test.YtakglldffpnlaaaGreatDoorWrM1
import Derived.WalkMore
import Derived.WalkSpells
namespace Go.Proofs.YtakglldffpnlaaaGreatDoor.Wr
set_option linter.all false
open Go.RowKit

def SayB (r : Nat × Nat × Nat) (w : World) (e : Ending) (w' : World) : Prop := e = .returned (.tuple #[.int .i64 r.1, .int .i64 r.2.1, .int .i64 r.2.2]) ∧ Below w.heap.size w w'
theorem getN_short {b : List Nat} (hb : ∀ j, gt b j < 256) {p k : Nat} (hp : p ≤ b.length) (hk : k = 1 ∨ k = 2 ∨ k = 4) :
    getN b (p : Int) (k : Int) = if b.length < p + k then (0, 0, 111) else (num b p k, p + k, 0) := by
  have h2 : okS (k : Int) = true := by rcases hk with rfl | rfl | rfl <;> rfl
  have h1 : okP b.length (p : Int) = true := by simp [okP]; omega
  unfold getN
  rw [if_neg (by rw [h1, h2]; simp), Int.toNat_natCast, Int.toNat_natCast]
  by_cases h3 : b.length < p + k
  · rw [if_pos h3, if_pos h3]
  · rw [if_neg h3, if_neg h3, if_neg]
    have := num_lt b hb p k (by omega)
    have h4 : 256 ^ k ≤ 256 ^ 4 := Nat.pow_le_pow_right (by omega) (by omega)
    omega
theorem lenAt_big {b : List Nat} {p : Nat} (hp : p < b.length) (h : 192 ≤ gt b p) : lenAt b p = (0, 0, 112) := by
  unfold lenAt; rw [if_neg (by omega), if_pos h]
theorem lenAt_cls {b : List Nat} {p s : Nat} (hp : p < b.length) (h : gt b p < 192) (hs : cls (gt b p) = s) :
    lenAt b p = if b.length < p + s then (0, 0, 111) else if num b p s < least s + mark s then (0, 0, 112) else (num b p s - mark s, p + s, 0) := by
  subst hs
  unfold lenAt; rw [if_neg (by omega), if_neg (by omega)]

theorem part_at (W : World) (g : Nat) (cs : Array Value) (h : W.heap[g]? = some (.cells cs 133 (0, 0))) (hs : cs.size = 4) :
    (partAt ⟨g, 0, none⟩ 3 24).run Tryz.prog W = .ok ⟨g, 3, none⟩ W ∧ (partAt ⟨g, 0, none⟩ 2 16).run Tryz.prog W = .ok ⟨g, 2, none⟩ W := by
  have e1 : Tryz.prog.cellsOf 133 = 4 := by kernel_rfl
  have e2 : byteOfCell Tryz.prog Tryz.prog.depth 133 0 = some 0 := by kernel_rfl
  have e3 : byteOfCell Tryz.prog Tryz.prog.depth 133 3 = some 24 := by kernel_rfl
  have e5 : byteOfCell Tryz.prog Tryz.prog.depth 133 2 = some 16 := by kernel_rfl
  have e4 : Tryz.prog.bytesOf 133 = 32 := by kernel_rfl
  constructor
  · simp [partAt, byteOf, noView, viewAt, World.shape?, h, hs, e1, e2, e3, e4]
  · simp [partAt, byteOf, noView, viewAt, World.shape?, h, hs, e1, e2, e5, e4]

set_option maxHeartbeats 2000000 in
set_option maxRecDepth 100000 in
theorem lengthAt_any (A : Option Addr) (b : List Nat) (n c p : Nat) (w : World) (hT : Tables w) (hA : Txt Any w A n c b) (hp : p ≤ n) (hn : n ≤ 8388608) (r : Nat × Nat × Nat) (hr : Hid (lenAt b p = r)) :
    Calls Tryz.prog 133 #[.slice A n c, .int .i64 p] w (SayB r w) := by
  have hl := hA.len
  by_cases hpn : p = n
  · have HR : Hid ((0, 0, 111) = r) := Lib.hid (by rw [← hr.out]; unfold lenAt; rw [if_pos (by omega)])
    have y1 : (p : Int) = (n : Int) := by omega
    go_enter Tryz.func133, Tryz.ntmps133
    go_wp2
    go_step3
    go_wp2
    go_ret3
    exact ⟨by rw [← HR.out]; rfl, Below.refl _ _⟩
  · obtain ⟨ad, rfl⟩ := hA.some (by omega)
    have HA := Lib.hid hA
    obtain ⟨x, hx⟩ : ∃ x, gt b p = x := ⟨_, rfl⟩
    have HX := Lib.hid (show w.cell? (ad.add p) = some (.int .u8 (x : Nat)) by rw [← hx]; exact hA.cell p (by omega))
    have hx256 : x < 256 := by rw [← hx]; exact hA.lt p
    have had : ad.block < w.heap.size := by obtain ⟨ad', e, h1, _⟩ := hA.1.2 (by omega); injection e with e; subst e; exact h1
    have HBIG := Lib.hid (fun h : 192 ≤ x => (show r = (0, 0, 112) by rw [← hr.out]; exact lenAt_big (by omega) (by rw [hx]; exact h)))
    have HCLS := Lib.hid (fun (s : Nat) (h : x < 192) (hs : cls x = s) => (show r = if n < p + s then (0, 0, 111) else if num b p s < least s + mark s then (0, 0, 112) else (num b p s - mark s, p + s, 0) by
      rw [← hr.out, ← hl]; exact lenAt_cls (by omega) (by rw [hx]; exact h) (by rw [hx]; exact hs)))
    have HGET := Lib.hid (fun (k : Nat) (hk : k = 1 ∨ k = 2 ∨ k = 4) => (show getN b (p : Int) (k : Int) = if n < p + k then (0, 0, 111) else (num b p k, p + k, 0) by rw [← hl]; exact getN_short hA.lt (by omega) hk))
    have HNUM := Lib.hid (fun (k : Nat) (hk : p + k ≤ n) => num_lt b hA.lt p k (by omega))
    have y1 : ¬ (p : Int) = (n : Int) := by omega
    have hpl : p < n := by omega
    have hlt := hT.lt
    have HT := Lib.hid hT
    have c0 : w.cell? ⟨1, 0, none⟩ = some (.int .i64 1) := hT.cells 0 _ rfl
    have c1 : w.cell? ⟨1, 1, none⟩ = some (.int .u8 64) := hT.cells 1 _ rfl
    have c2 : w.cell? ⟨1, 2, none⟩ = some (.int .i64 0) := hT.cells 2 _ rfl
    have c3 : w.cell? ⟨1, 3, none⟩ = some (.int .i64 64) := hT.cells 3 _ rfl
    have c4 : w.cell? ⟨1, 4, none⟩ = some (.int .i64 2) := hT.cells 4 _ rfl
    have c5 : w.cell? ⟨1, 5, none⟩ = some (.int .u8 128) := hT.cells 5 _ rfl
    have c6 : w.cell? ⟨1, 6, none⟩ = some (.int .i64 16384) := hT.cells 6 _ rfl
    have c7 : w.cell? ⟨1, 7, none⟩ = some (.int .i64 16384) := hT.cells 7 _ rfl
    have c8 : w.cell? ⟨1, 8, none⟩ = some (.int .i64 4) := hT.cells 8 _ rfl
    have c9 : w.cell? ⟨1, 9, none⟩ = some (.int .u8 192) := hT.cells 9 _ rfl
    have c10 : w.cell? ⟨1, 10, none⟩ = some (.int .i64 2147483648) := hT.cells 10 _ rfl
    have c11 : w.cell? ⟨1, 11, none⟩ = some (.int .i64 1073741824) := hT.cells 11 _ rfl
    clear hx hT hA hl
    go_enter Tryz.func133, Tryz.ntmps133
    go_wp2
    go_step3
    go_wp2
    go_step3
    go_wp2
    clear c0 c1 c2 c3 c4 c5 c6 c7 c8 c9 c10 c11
    first | rw [show decide ((p : Int) = (n : Int)) = false from decide_eq_false y1] | rw [show ((p : Int) == (n : Int)) = false from beq_eq_false_iff_ne.2 y1]
    go_loopw [7, 18] (fun v i W => ∃ (k l : Nat), i = .int .i64 k ∧ v = .int .i64 l ∧ ((k = 0 ∧ l = 0) ∨ (k = 1 ∧ l = 64 ∧ 64 ≤ x) ∨ (k = 2 ∧ l = 16384 ∧ 128 ≤ x) ∨ (k = 3 ∧ 192 ≤ x)) ∧ Hid (Below w.heap.size w W)) (fun _ i _ => 4 - (intOf i).toNat)
    case atStart => exact ⟨0, 0, rfl, rfl, .inl ⟨rfl, rfl⟩, Lib.hid (Below.refl _ _)⟩
    case round =>
      obtain ⟨k, l, rfl, rfl, hk, HB⟩ := hrel
      rcases hk with ⟨rfl, rfl⟩ | ⟨rfl, rfl, hk⟩ | ⟨rfl, rfl, hk⟩ | ⟨rfl, hk⟩
      · have hix := class0
        have HB1 := Lib.hid (HB.out.alloc HB.out.size (.cells #[.int .i64 1, .int .u8 64, .int .i64 0, .int .i64 64] 133))
        have cx : wr.cell? (ad.add p) = some (.int .u8 (x : Nat)) := by rw [HB.out.cell (by rw [add_block]; exact had)]; exact HX.out
        have cy : (wr.alloc (.cells #[.int .i64 1, .int .u8 64, .int .i64 0, .int .i64 64] 133)).cell? (ad.add p) = some (.int .u8 (x : Nat)) := by rw [HB1.out.cell (by rw [add_block]; exact had)]; exact HX.out
        have HD := heap_alloc_last wr (.cells #[.int .i64 1, .int .u8 64, .int .i64 0, .int .i64 64] 133)
        have f0 : (wr.alloc (.cells #[.int .i64 1, .int .u8 64, .int .i64 0, .int .i64 64] 133)).cell? ⟨wr.heap.size, 0, none⟩ = some (.int .i64 1) := by rw [cell_of_row _ _ 0 _ 133 (0, 0) HD]; rfl
        have f1 : (wr.alloc (.cells #[.int .i64 1, .int .u8 64, .int .i64 0, .int .i64 64] 133)).cell? ⟨wr.heap.size, 1, none⟩ = some (.int .u8 64) := by rw [cell_of_row _ _ 1 _ 133 (0, 0) HD]; rfl
        have f2 : (wr.alloc (.cells #[.int .i64 1, .int .u8 64, .int .i64 0, .int .i64 64] 133)).cell? ⟨wr.heap.size, 2, none⟩ = some (.int .i64 0) := by rw [cell_of_row _ _ 2 _ 133 (0, 0) HD]; rfl
        have f3 : (wr.alloc (.cells #[.int .i64 1, .int .u8 64, .int .i64 0, .int .i64 64] 133)).cell? ⟨wr.heap.size, 3, none⟩ = some (.int .i64 64) := by rw [cell_of_row _ _ 3 _ 133 (0, 0) HD]; rfl
        obtain ⟨hq3, hq2⟩ := part_at (wr.alloc (.cells #[.int .i64 1, .int .u8 64, .int .i64 0, .int .i64 64] 133)).drew wr.heap.size _ HD rfl
        go_wp2_with fail
        refine getNumber_any (some ad) b n c p (1 : Nat) _ _ (HA.out.below HB1.out) hn (Lib.hid ?_)
        rintro e' w2 ⟨rfl, rfl⟩
        rw [HGET.out 1 (by omega)]
        clear HD cx
        generalize wr.alloc (.cells #[.int .i64 1, .int .u8 64, .int .i64 0, .int .i64 64] 133) = W1 at *
        have HB2 := Lib.hid HB1.out.drew
        by_cases hsh : n < p + 1
        · omega
        · rw [if_neg hsh]
          have HN := HNUM.out 1 (by omega)
          have HCL : Hid (x < 64 → r = if num b p 1 < 0 then (0, 0, 112) else (num b p 1 - 0, p + 1, 0)) := Lib.hid (fun h => by rw [HCLS.out 1 (by omega) (by unfold cls; rw [if_pos (by omega)]), if_neg hsh]; rfl)
          obtain ⟨N, hN⟩ : ∃ N, num b p 1 = N := ⟨_, rfl⟩
          obtain ⟨q, hq⟩ : ∃ q, p + 1 = q := ⟨_, rfl⟩
          rw [hN] at HN HCL ⊢
          rw [hq] at HCL ⊢
          have hN4 : N < 256 := HN
          clear HN hN hq HCLS HGET HNUM
          by_cases hx : 64 ≤ x
          · have yx : (64 : Int) ≤ (x : Int) := by omega
            go_wp2
            refine wp_region_still_tail 7 (by kernel_rfl) (by kernel_rfl) ?_
            simp only [List.take_succ_cons, List.take_zero, List.drop_succ_cons, List.drop_zero]
            iterate 6 still_step
            still_step
            refine wpStill_nil ?_
            change wpList _ _ _ _ _ (World.drew _)
            go_wp2
            go_roundw
            case rel => exact ⟨1, 64, by go_num, rfl, .inr (.inl ⟨rfl, rfl, by omega⟩), HB2⟩
            case measure => simp [intOf]
          · have yx : ¬ (64 : Int) ≤ (x : Int) := by omega
            by_cases hlow : N < 0
            · omega
            · have HR := Lib.hid (show r = (N - 0, q, 0) by rw [HCL.out (by omega), if_neg hlow])
              have yl : ¬ (N : Int) - 0 < 0 := by omega
              obtain ⟨m, hm, hm'⟩ : ∃ m : Nat, N - 0 = m ∧ (N : Int) - 0 = (m : Int) := ⟨_, rfl, by omega⟩
              rw [hm] at HR
              clear hm hlow HCL
              go_wp2
              refine wp_region_still_tail 7 (by kernel_rfl) (by kernel_rfl) ?_
              simp only [List.take_succ_cons, List.take_zero, List.drop_succ_cons, List.drop_zero]
              iterate 6 still_step
              still_step
              refine wpStill_nil ?_
              change wpList _ _ _ _ _ (World.drew _)
              go_wp2
              go_ret3
              exact ⟨(by rw [HR.out]; rfl), HB2.out⟩
      · have hix := class1
        have HB1 := Lib.hid (HB.out.alloc HB.out.size (.cells #[.int .i64 2, .int .u8 128, .int .i64 16384, .int .i64 16384] 133))
        have cx : wr.cell? (ad.add p) = some (.int .u8 (x : Nat)) := by rw [HB.out.cell (by rw [add_block]; exact had)]; exact HX.out
        have cy : (wr.alloc (.cells #[.int .i64 2, .int .u8 128, .int .i64 16384, .int .i64 16384] 133)).cell? (ad.add p) = some (.int .u8 (x : Nat)) := by rw [HB1.out.cell (by rw [add_block]; exact had)]; exact HX.out
        have HD := heap_alloc_last wr (.cells #[.int .i64 2, .int .u8 128, .int .i64 16384, .int .i64 16384] 133)
        have f0 : (wr.alloc (.cells #[.int .i64 2, .int .u8 128, .int .i64 16384, .int .i64 16384] 133)).cell? ⟨wr.heap.size, 0, none⟩ = some (.int .i64 2) := by rw [cell_of_row _ _ 0 _ 133 (0, 0) HD]; rfl
        have f1 : (wr.alloc (.cells #[.int .i64 2, .int .u8 128, .int .i64 16384, .int .i64 16384] 133)).cell? ⟨wr.heap.size, 1, none⟩ = some (.int .u8 128) := by rw [cell_of_row _ _ 1 _ 133 (0, 0) HD]; rfl
        have f2 : (wr.alloc (.cells #[.int .i64 2, .int .u8 128, .int .i64 16384, .int .i64 16384] 133)).cell? ⟨wr.heap.size, 2, none⟩ = some (.int .i64 16384) := by rw [cell_of_row _ _ 2 _ 133 (0, 0) HD]; rfl
        have f3 : (wr.alloc (.cells #[.int .i64 2, .int .u8 128, .int .i64 16384, .int .i64 16384] 133)).cell? ⟨wr.heap.size, 3, none⟩ = some (.int .i64 16384) := by rw [cell_of_row _ _ 3 _ 133 (0, 0) HD]; rfl
        obtain ⟨hq3, hq2⟩ := part_at (wr.alloc (.cells #[.int .i64 2, .int .u8 128, .int .i64 16384, .int .i64 16384] 133)).drew wr.heap.size _ HD rfl
        go_wp2_with fail
        refine getNumber_any (some ad) b n c p (2 : Nat) _ _ (HA.out.below HB1.out) hn (Lib.hid ?_)
        rintro e' w2 ⟨rfl, rfl⟩
        rw [HGET.out 2 (by omega)]
        clear HD cx
        generalize wr.alloc (.cells #[.int .i64 2, .int .u8 128, .int .i64 16384, .int .i64 16384] 133) = W1 at *
        have HB2 := Lib.hid HB1.out.drew
        by_cases hsh : n < p + 2
        · rw [if_pos hsh]
          by_cases hx : 128 ≤ x
          · have yx : (128 : Int) ≤ (x : Int) := by omega
            go_wp2
            refine wp_region_still_tail 7 (by kernel_rfl) (by kernel_rfl) ?_
            simp only [List.take_succ_cons, List.take_zero, List.drop_succ_cons, List.drop_zero]
            iterate 6 still_step
            still_step
            refine wpStill_nil ?_
            change wpList _ _ _ _ _ (World.drew _)
            go_wp2
            go_roundw
            case rel => exact ⟨2, 16384, by go_num, rfl, .inr (.inr (.inl ⟨rfl, rfl, by omega⟩)), HB2⟩
            case measure => simp [intOf]
          · have yx : ¬ (128 : Int) ≤ (x : Int) := by omega
            have HR := Lib.hid (show r = (0, 0, 111) by rw [HCLS.out 2 (by omega) (by unfold cls; rw [if_neg (by omega), if_pos (by omega)]), if_pos hsh])
            go_wp2
            refine wp_region_still_tail 7 (by kernel_rfl) (by kernel_rfl) ?_
            simp only [List.take_succ_cons, List.take_zero, List.drop_succ_cons, List.drop_zero]
            iterate 6 still_step
            still_step
            refine wpStill_nil ?_
            change wpList _ _ _ _ _ (World.drew _)
            go_wp2
            go_ret3
            exact ⟨(by rw [HR.out]; rfl), HB2.out⟩
        · rw [if_neg hsh]
          have HN := HNUM.out 2 (by omega)
          have HCL : Hid (x < 128 → r = if num b p 2 < 16448 then (0, 0, 112) else (num b p 2 - 16384, p + 2, 0)) := Lib.hid (fun h => by rw [HCLS.out 2 (by omega) (by unfold cls; rw [if_neg (by omega), if_pos (by omega)]), if_neg hsh]; rfl)
          obtain ⟨N, hN⟩ : ∃ N, num b p 2 = N := ⟨_, rfl⟩
          obtain ⟨q, hq⟩ : ∃ q, p + 2 = q := ⟨_, rfl⟩
          rw [hN] at HN HCL ⊢
          rw [hq] at HCL ⊢
          have hN4 : N < 65536 := HN
          clear HN hN hq HCLS HGET HNUM
          by_cases hx : 128 ≤ x
          · have yx : (128 : Int) ≤ (x : Int) := by omega
            go_wp2
            refine wp_region_still_tail 7 (by kernel_rfl) (by kernel_rfl) ?_
            simp only [List.take_succ_cons, List.take_zero, List.drop_succ_cons, List.drop_zero]
            iterate 6 still_step
            still_step
            refine wpStill_nil ?_
            change wpList _ _ _ _ _ (World.drew _)
            go_wp2
            go_roundw
            case rel => exact ⟨2, 16384, by go_num, rfl, .inr (.inr (.inl ⟨rfl, rfl, by omega⟩)), HB2⟩
            case measure => simp [intOf]
          · have yx : ¬ (128 : Int) ≤ (x : Int) := by omega
            by_cases hlow : N < 16448
            · have HR := Lib.hid (show r = (0, 0, 112) by rw [HCL.out (by omega), if_pos hlow])
              have yl : (N : Int) - 16384 < 64 := by omega
              go_wp2
              refine wp_region_still_tail 7 (by kernel_rfl) (by kernel_rfl) ?_
              simp only [List.take_succ_cons, List.take_zero, List.drop_succ_cons, List.drop_zero]
              iterate 6 still_step
              still_step
              refine wpStill_nil ?_
              change wpList _ _ _ _ _ (World.drew _)
              go_wp2
              go_ret3
              exact ⟨(by rw [HR.out]; rfl), HB2.out⟩
            · have HR := Lib.hid (show r = (N - 16384, q, 0) by rw [HCL.out (by omega), if_neg hlow])
              have yl : ¬ (N : Int) - 16384 < 64 := by omega
              obtain ⟨m, hm, hm'⟩ : ∃ m : Nat, N - 16384 = m ∧ (N : Int) - 16384 = (m : Int) := ⟨_, rfl, by omega⟩
              rw [hm] at HR
              clear hm hlow HCL
              go_wp2
              refine wp_region_still_tail 7 (by kernel_rfl) (by kernel_rfl) ?_
              simp only [List.take_succ_cons, List.take_zero, List.drop_succ_cons, List.drop_zero]
              iterate 6 still_step
              still_step
              refine wpStill_nil ?_
              change wpList _ _ _ _ _ (World.drew _)
              go_wp2
              go_ret3
              exact ⟨(by rw [HR.out]; rfl), HB2.out⟩
      · have hix := class2
        have HB1 := Lib.hid (HB.out.alloc HB.out.size (.cells #[.int .i64 4, .int .u8 192, .int .i64 2147483648, .int .i64 1073741824] 133))
        have cx : wr.cell? (ad.add p) = some (.int .u8 (x : Nat)) := by rw [HB.out.cell (by rw [add_block]; exact had)]; exact HX.out
        have cy : (wr.alloc (.cells #[.int .i64 4, .int .u8 192, .int .i64 2147483648, .int .i64 1073741824] 133)).cell? (ad.add p) = some (.int .u8 (x : Nat)) := by rw [HB1.out.cell (by rw [add_block]; exact had)]; exact HX.out
        have HD := heap_alloc_last wr (.cells #[.int .i64 4, .int .u8 192, .int .i64 2147483648, .int .i64 1073741824] 133)
        have f0 : (wr.alloc (.cells #[.int .i64 4, .int .u8 192, .int .i64 2147483648, .int .i64 1073741824] 133)).cell? ⟨wr.heap.size, 0, none⟩ = some (.int .i64 4) := by rw [cell_of_row _ _ 0 _ 133 (0, 0) HD]; rfl
        have f1 : (wr.alloc (.cells #[.int .i64 4, .int .u8 192, .int .i64 2147483648, .int .i64 1073741824] 133)).cell? ⟨wr.heap.size, 1, none⟩ = some (.int .u8 192) := by rw [cell_of_row _ _ 1 _ 133 (0, 0) HD]; rfl
        have f2 : (wr.alloc (.cells #[.int .i64 4, .int .u8 192, .int .i64 2147483648, .int .i64 1073741824] 133)).cell? ⟨wr.heap.size, 2, none⟩ = some (.int .i64 2147483648) := by rw [cell_of_row _ _ 2 _ 133 (0, 0) HD]; rfl
        have f3 : (wr.alloc (.cells #[.int .i64 4, .int .u8 192, .int .i64 2147483648, .int .i64 1073741824] 133)).cell? ⟨wr.heap.size, 3, none⟩ = some (.int .i64 1073741824) := by rw [cell_of_row _ _ 3 _ 133 (0, 0) HD]; rfl
        obtain ⟨hq3, hq2⟩ := part_at (wr.alloc (.cells #[.int .i64 4, .int .u8 192, .int .i64 2147483648, .int .i64 1073741824] 133)).drew wr.heap.size _ HD rfl
        go_wp2_with fail
        refine getNumber_any (some ad) b n c p (4 : Nat) _ _ (HA.out.below HB1.out) hn (Lib.hid ?_)
        rintro e' w2 ⟨rfl, rfl⟩
        rw [HGET.out 4 (by omega)]
        clear HD cx
        generalize wr.alloc (.cells #[.int .i64 4, .int .u8 192, .int .i64 2147483648, .int .i64 1073741824] 133) = W1 at *
        have HB2 := Lib.hid HB1.out.drew
        by_cases hsh : n < p + 4
        · rw [if_pos hsh]
          by_cases hx : 192 ≤ x
          · have yx : (192 : Int) ≤ (x : Int) := by omega
            go_wp2
            refine wp_region_still_tail 7 (by kernel_rfl) (by kernel_rfl) ?_
            simp only [List.take_succ_cons, List.take_zero, List.drop_succ_cons, List.drop_zero]
            iterate 6 still_step
            still_step
            refine wpStill_nil ?_
            change wpList _ _ _ _ _ (World.drew _)
            go_wp2
            go_roundw
            case rel => exact ⟨3, 1073741824, by go_num, rfl, .inr (.inr (.inr ⟨rfl, by omega⟩)), HB2⟩
            case measure => simp [intOf]
          · have yx : ¬ (192 : Int) ≤ (x : Int) := by omega
            have HR := Lib.hid (show r = (0, 0, 111) by rw [HCLS.out 4 (by omega) (by unfold cls; rw [if_neg (by omega), if_neg (by omega)]), if_pos hsh])
            go_wp2
            refine wp_region_still_tail 7 (by kernel_rfl) (by kernel_rfl) ?_
            simp only [List.take_succ_cons, List.take_zero, List.drop_succ_cons, List.drop_zero]
            iterate 6 still_step
            still_step
            refine wpStill_nil ?_
            change wpList _ _ _ _ _ (World.drew _)
            go_wp2
            go_ret3
            exact ⟨(by rw [HR.out]; rfl), HB2.out⟩
        · rw [if_neg hsh]
          have HN := HNUM.out 4 (by omega)
          have HCL : Hid (x < 192 → r = if num b p 4 < 2147500032 then (0, 0, 112) else (num b p 4 - 2147483648, p + 4, 0)) := Lib.hid (fun h => by rw [HCLS.out 4 (by omega) (by unfold cls; rw [if_neg (by omega), if_neg (by omega)]), if_neg hsh]; rfl)
          obtain ⟨N, hN⟩ : ∃ N, num b p 4 = N := ⟨_, rfl⟩
          obtain ⟨q, hq⟩ : ∃ q, p + 4 = q := ⟨_, rfl⟩
          rw [hN] at HN HCL ⊢
          rw [hq] at HCL ⊢
          have hN4 : N < 4294967296 := HN
          clear HN hN hq HCLS HGET HNUM
          by_cases hx : 192 ≤ x
          · have yx : (192 : Int) ≤ (x : Int) := by omega
            go_wp2
            refine wp_region_still_tail 7 (by kernel_rfl) (by kernel_rfl) ?_
            simp only [List.take_succ_cons, List.take_zero, List.drop_succ_cons, List.drop_zero]
            iterate 6 still_step
            still_step
            refine wpStill_nil ?_
            change wpList _ _ _ _ _ (World.drew _)
            go_wp2
            go_roundw
            case rel => exact ⟨3, 1073741824, by go_num, rfl, .inr (.inr (.inr ⟨rfl, by omega⟩)), HB2⟩
            case measure => simp [intOf]
          · have yx : ¬ (192 : Int) ≤ (x : Int) := by omega
            by_cases hlow : N < 2147500032
            · have HR := Lib.hid (show r = (0, 0, 112) by rw [HCL.out (by omega), if_pos hlow])
              have yl : (N : Int) - 2147483648 < 16384 := by omega
              go_wp2
              refine wp_region_still_tail 7 (by kernel_rfl) (by kernel_rfl) ?_
              simp only [List.take_succ_cons, List.take_zero, List.drop_succ_cons, List.drop_zero]
              iterate 6 still_step
              still_step
              refine wpStill_nil ?_
              change wpList _ _ _ _ _ (World.drew _)
              go_wp2
              go_ret3
              exact ⟨(by rw [HR.out]; rfl), HB2.out⟩
            · have HR := Lib.hid (show r = (N - 2147483648, q, 0) by rw [HCL.out (by omega), if_neg hlow])
              have yl : ¬ (N : Int) - 2147483648 < 16384 := by omega
              obtain ⟨m, hm, hm'⟩ : ∃ m : Nat, N - 2147483648 = m ∧ (N : Int) - 2147483648 = (m : Int) := ⟨_, rfl, by omega⟩
              rw [hm] at HR
              clear hm hlow HCL
              go_wp2
              refine wp_region_still_tail 7 (by kernel_rfl) (by kernel_rfl) ?_
              simp only [List.take_succ_cons, List.take_zero, List.drop_succ_cons, List.drop_zero]
              iterate 6 still_step
              still_step
              refine wpStill_nil ?_
              change wpList _ _ _ _ _ (World.drew _)
              go_wp2
              go_ret3
              exact ⟨(by rw [HR.out]; rfl), HB2.out⟩
      · have HR := Lib.hid (HBIG.out hk)
        go_wp2
        go_ret3
        exact ⟨(by rw [HR.out]; rfl), HB.out⟩
end Go.Proofs.YtakglldffpnlaaaGreatDoor.Wr

namespace Go.Proofs.YtakglldffpnlaaaGreatDoor.Wr
set_option linter.all false
open Go.RowKit

theorem okP_true {n : Nat} {x : Int} : okP n x = true ↔ ∃ p : Nat, x = p ∧ p ≤ n := by
  constructor
  · intro h
    have h' : 0 ≤ x ∧ x ≤ n := by simpa [okP] using h
    exact ⟨x.toNat, by omega, by omega⟩
  · rintro ⟨p, rfl, h⟩
    simp [okP]; omega
set_option maxHeartbeats 2000000 in
set_option maxRecDepth 100000 in
theorem textAt_any (A : Option Addr) (b : List Nat) (n c : Nat) (x : Int) (w : World) (hT : Tables w) (hA : Txt Any w A n c b) (hn : n ≤ 8388608) (r : Nat × Nat × Nat) (hr : Hid (txI b x = r)) :
    Calls Tryz.prog 127 #[.slice A n c, .int .i64 x] w (SayB r w) := by
  have hl := hA.len
  by_cases h1 : okP n x = true
  · obtain ⟨p, rfl, hp⟩ := okP_true.1 h1
    have HR0 : Hid (txAt b p = r) := Lib.hid (by rw [← hr.out, txI_nat _ _ (by omega)])
    have HOK := Lib.hid (fun h : (lenAt b p).2.2 = 0 => lenAt_ok hA.lt h)
    obtain ⟨⟨m, fr, er⟩, hL⟩ : ∃ t, lenAt b p = t := ⟨_, rfl⟩
    have HTX := Lib.hid (show txAt b p = if er ≠ 0 then (0, 0, er) else if 1048576 < m then (0, 0, 2) else if n < fr + m then (0, 0, 111) else (fr, fr + m, 0) by unfold txAt; rw [hL, hl])
    rw [hL] at HOK
    have HL := Lib.hid hL
    clear hl hL
    have HA := Lib.hid hA; have HT := Lib.hid hT
    go_enter Tryz.func127, Tryz.ntmps127
    go_wp2_with fail
    refine (isPlace_any _ n c p w).mono ?_
    rintro e' w1 ⟨rfl, rfl⟩
    rw [h1]
    go_wp2_with fail
    refine (lengthAt_any A b n c p w HT.out HA.out hp hn (m, fr, er) HL).mono ?_
    rintro e' w1 ⟨rfl, hB⟩
    have HB := Lib.hid hB; clear hB hA hT
    by_cases he : er = 0
    · subst he
      obtain ⟨k1, k2, k3, k4, k5⟩ := HOK.out rfl
      replace k1 : p < fr := k1
      replace k2 : fr ≤ b.length := k2
      replace k3 : m < 1073741824 := k3
      rw [HA.out.len] at k2
      clear k4 k5
      by_cases h2 : 1048576 < m
      · have HR := Lib.hid (show r = (0, 0, 2) by rw [← HR0.out, HTX.out, if_neg (by simp), if_pos h2])
        have y2 : (1048576 : Int) < (m : Int) := by omega
        go_wp2
        go_ret3
        exact ⟨by rw [HR.out]; rfl, HB.out⟩
      · have y2 : ¬ (1048576 : Int) < (m : Int) := by omega
        by_cases h3 : n < fr + m
        · have HR := Lib.hid (show r = (0, 0, 111) by rw [← HR0.out, HTX.out, if_neg (by simp), if_neg h2, if_pos h3])
          have y3 : (n : Int) - (fr : Int) < (m : Int) := by omega
          go_wp2
          go_ret3
          exact ⟨by rw [HR.out]; rfl, HB.out⟩
        · have y3 : ¬ (n : Int) - (fr : Int) < (m : Int) := by omega
          obtain ⟨q, hq, hq'⟩ : ∃ q : Nat, fr + m = q ∧ (fr : Int) + (m : Int) = (q : Int) := ⟨_, rfl, by omega⟩
          have HR := Lib.hid (show r = (fr, q, 0) by rw [← HR0.out, HTX.out, if_neg (by simp), if_neg h2, if_neg h3, hq])
          clear hq
          go_wp2
          go_ret3
          exact ⟨by rw [HR.out]; rfl, HB.out⟩
    · have HR := Lib.hid (show r = (0, 0, er) by rw [← HR0.out, HTX.out, if_pos he])
      have y2 : ¬ (er : Int) = 0 := by omega
      go_wp2
      go_ret3
      exact ⟨by rw [HR.out]; rfl, HB.out⟩
  · have h1' : okP n x = false := by cases h : okP n x <;> simp_all
    have HR := Lib.hid (show r = (0, 0, 1) by
      rw [← hr.out]; unfold txI; rw [if_pos]
      have h2 : ¬ (0 ≤ x ∧ x ≤ n) := by intro h; exact h1 (by simpa [okP] using h)
      omega)
    clear hl
    go_enter Tryz.func127, Tryz.ntmps127
    go_wp2_with fail
    refine (isPlace_any _ n c x w).mono ?_
    rintro e' w1 ⟨rfl, rfl⟩
    rw [h1']
    go_wp2
    go_ret3
    exact ⟨by rw [HR.out]; rfl, Below.refl _ _⟩

/-- a part of a text, wherever it ends -/
theorem cut_any {S : Nat → Prop} {w : World} {ad : Addr} {n c : Nat} {bs : List Nat} (h : Txt S w (some ad) n c bs) (p q : Nat) (hpq : p ≤ q) (hq : q ≤ n) :
    ∃ ad' : Addr, (∀ W : World, (Instr.slice 25 (.slice (some ad) n c) (some (.int .i64 (p : Int))) (some (.int .i64 (q : Int))) none).run Tryz.prog W = .ok (.slice (some ad') (q - p) (c - p)) W) ∧ Txt S w (some ad') (q - p) (c - p) (cut bs p q) := by
  have hnc := h.2.2.1
  by_cases hp : p < c
  · exact ⟨_, fun W => run_cut ad n c p q hpq hq hp hnc W, h.part p q hpq hq⟩
  · refine ⟨ad, fun W => ?_, ?_⟩
    · have h1 : Tryz.prog.underlying 25 = some (.slice (Tryz.prog.elem 25)) := by kernel_rfl
      have h3 : Tryz.prog.elem 25 = 5 := by kernel_rfl
      have h4 : (Tryz.prog.info? 5).map (·.size) = some 1 := by kernel_rfl
      obtain rfl : p = c := by omega
      cases hq' : Tryz.prog.info? 5 with
      | none => simp [hq'] at h4
      | some i =>
        have hs1 : i.size = 1 := by simpa [hq'] using h4
        rw [run_slice_lh (a := some ad) (len := n) (cap := p) (w := W) (t := 25) (ht := h1) .i64 .i64 (p : Int) (q : Int) (by omega) (by omega) (by omega), h3]
        have e4 : ad.add 0 = ad := rfl
        simp [sizeOf, typeInfo, hq', hs1, sliced, e4]
    · obtain rfl : p = q := by omega
      rw [Nat.sub_self]
      have hc : cut bs p p = [] := by unfold cut; simp
      rw [hc]
      exact ⟨Rd.nil _ _ _, rfl, Nat.zero_le _, by have := h.2.2.2.1; omega, fun e => (by cases e), h.2.2.2.2.2⟩

set_option maxHeartbeats 2000000 in
set_option maxRecDepth 100000 in
theorem clone_any (ad : Addr) (b : List Nat) (n c : Nat) (w : World) (hA : Txt Any w (some ad) n c b) (hn : n ≤ 8388608) (r : List Nat) (hr : Hid (b = r)) :
    Calls Tryz.prog 128 #[.slice (some ad) n c] w (Told r w) := by
  have HA := Lib.hid hA
  have HNIL := Lib.hid (nil_own w (base := w.heap.size) (Nat.le_refl _))
  have HB1 := Lib.hid ((Below.refl w.heap.size w).alloc (Nat.le_refl _) (.cells #[] 5))
  have HA1 := Lib.hid (HA.out.below HB1.out)
  clear hA
  have hnil : ∀ W : World, (binOp .eql 25 (.slice (some ad) n c) (.slice none 0 0)).run Tryz.prog W = .ok (.bool false) W := fun W => run_eql_nil_slice W 25 5 (some ad) n c 0 0 Tryz.underlying25
  go_enter Tryz.func128, Tryz.ntmps128
  go_wp2_with (at_builtin; refine wpList_append_txt rfl (.tmp 5) (.tmp 6) rfl w.heap.size 0 n c _ [] b (some ad) Any rfl rfl HNIL.out HA1.out (by omega) HB1.out.size ?_)
  intro v' W2 hown hgrow hat
  obtain ⟨C', c', rfl⟩ := own_slice_of hown
  have HO3 := Lib.hid hown; have HB3 := Lib.hid (below_own HB1.out HNIL.out (Nat.le_refl _) hgrow); clear hown hgrow hat
  go_wp2
  go_ret
  obtain ⟨A', c'', e, hX⟩ := Txt.of_own HO3.out HA.out.lt
  injection e with e1 _ e3
  subst e1 e3
  exact ⟨_, _, _, rfl, by rw [← hr.out]; exact hX, HB3.out⟩

/-- a text got -/
def GotT (r : List Nat × Nat × Nat) (w : World) (e : Ending) (w' : World) : Prop :=
  ∃ A n c, e = .returned (.tuple #[.slice A n c, .int .i64 r.2.1, .int .i64 r.2.2]) ∧ Txt (New w.heap.size w') w' A n c r.1 ∧ Below w.heap.size w w'
theorem txI_zero_of {b : List Nat} {x : Int} (h : (txI b x).2.2 ≠ 0) : (txI b x).1 = 0 ∧ (txI b x).2.1 = 0 := by
  unfold txI at h ⊢
  by_cases h1 : x < 0 ∨ (b.length : Int) < x
  · rw [if_pos h1]; exact ⟨rfl, rfl⟩
  rw [if_neg h1] at h ⊢
  unfold txAt at h ⊢
  split
  · exact ⟨rfl, rfl⟩
  split
  · exact ⟨rfl, rfl⟩
  split
  · exact ⟨rfl, rfl⟩
  · rename_i h2 h3 h4
    rw [if_neg h2, if_neg h3, if_neg h4] at h; exact absurd rfl h
theorem txI_ok {b : List Nat} (hb : ∀ j, gt b j < 256) {x : Int} (h : (txI b x).2.2 = 0) : 0 < (txI b x).1 ∧ (txI b x).1 ≤ (txI b x).2.1 ∧ (txI b x).2.1 ≤ b.length := by
  unfold txI at h ⊢
  by_cases h1 : x < 0 ∨ (b.length : Int) < x
  · rw [if_pos h1] at h; cases h
  rw [if_neg h1] at h ⊢
  obtain ⟨k1, k2, k3, -, -⟩ := txAt_ok hb h
  exact ⟨by omega, k2, k3⟩
set_option maxHeartbeats 2000000 in
set_option maxRecDepth 100000 in
theorem getText_any (A : Option Addr) (b : List Nat) (n c : Nat) (x : Int) (w : World) (hT : Tables w) (hA : Txt Any w A n c b) (hn : n ≤ 8388608) (r : List Nat × Nat × Nat) (hr : Hid (getT b x = r)) :
    Calls Tryz.prog 120 #[.slice A n c, .int .i64 x] w (GotT r w) := by
  have HOK := Lib.hid (fun h : (txI b x).2.2 = 0 => txI_ok hA.lt h)
  have HG := Lib.hid (show getT b x = if (txI b x).2.2 ≠ 0 then ([], 0, (txI b x).2.2) else (cut b (txI b x).1 (txI b x).2.1, (txI b x).2.1, 0) from rfl)
  obtain ⟨⟨fr, to, er⟩, hL⟩ : ∃ t, txI b x = t := ⟨_, rfl⟩
  rw [hL] at HOK HG
  have HL := Lib.hid hL
  have HA := Lib.hid hA; have HT := Lib.hid hT
  clear hL hA hT
  go_enter Tryz.func120, Tryz.ntmps120
  go_wp2_with fail
  refine (textAt_any A b n c x w HT.out HA.out hn (fr, to, er) HL).mono ?_
  rintro e' w1 ⟨rfl, hB⟩
  have HB := Lib.hid hB; clear hB
  by_cases he : er = 0
  · subst he
    obtain ⟨k1, k2, k3⟩ := HOK.out rfl
    replace k1 : 0 < fr := k1
    replace k2 : fr ≤ to := k2
    replace k3 : to ≤ b.length := k3
    rw [HA.out.len] at k3
    obtain ⟨ad, rfl⟩ := HA.out.some (by omega)
    obtain ⟨ad', hsl, hX⟩ := cut_any HA.out fr to k2 k3
    have HX := Lib.hid (hX.below HB.out); clear hX
    have HR := Lib.hid (show r = (cut b fr to, to, 0) by rw [← hr.out, HG.out, if_neg (by simp)])
    go_wp2_with fail
    refine (clone_any ad' (cut b fr to) (to - fr) (c - fr) w1 HX.out (by omega) _ (Lib.hid rfl)).mono ?_
    rintro e' w2 ⟨A2, n2, c2, rfl, hX2, hB2⟩
    have HX2 := Lib.hid (hX2.mono (New.mono HB.out.size)); have HB2 := Lib.hid (HB.out.trans (hB2.mono HB.out.size)); clear hX2 hB2
    go_wp2
    go_ret3
    refine ⟨_, _, _, ?_, by rw [HR.out]; exact HX2.out, HB2.out⟩
    rw [HR.out]; rfl
  · have HR := Lib.hid (show r = ([], 0, er) by rw [← hr.out, HG.out, if_pos he])
    have y2 : ¬ (er : Int) = 0 := by omega
    go_wp2
    go_ret3
    refine ⟨_, _, _, ?_, by rw [HR.out]; exact Txt.nil _ _, HB.out⟩
    rw [HR.out]; rfl
end Go.Proofs.YtakglldffpnlaaaGreatDoor.Wr

namespace Go.Proofs.YtakglldffpnlaaaGreatDoor.Wr
set_option linter.all false
open Go.RowKit

/-- a row of texts of one's own, which lie in other blocks -/
def OwnL (w : World) (base : Nat) (v : Value) (n : Nat) (ls : List (List Nat)) : Prop :=
  ∃ vs : List Value, w.ownsRow base 25 1 v n vs ∧ ls.length = n ∧ ∀ j, j < n → ∃ Aj nj cj, vs[j]? = some (.slice Aj nj cj) ∧ Txt (fun b => base ≤ b ∧ b < w.heap.size ∧ v.ownBlock ≠ some b) w Aj nj cj (ls.getD j [])
theorem OwnL.nil (w : World) (base : Nat) : OwnL w base (.slice none 0 0) 0 [] := ⟨[], ⟨rfl, .inl ⟨rfl, rfl⟩⟩, rfl, fun j h => by omega⟩
theorem OwnL.slice {w : World} {base n : Nat} {v : Value} {ls : List (List Nat)} (h : OwnL w base v n ls) : ∃ A c, v = .slice A n c := by
  obtain ⟨vs, ho, _⟩ := h
  rcases ho.2 with ⟨e, h0⟩ | ⟨g, c, cur, e, _⟩
  · subst h0; exact ⟨_, _, e⟩
  · exact ⟨_, _, e⟩
theorem OwnL.lt {w : World} {base n g : Nat} {v : Value} {ls : List (List Nat)} (h : OwnL w base v n ls) (hg : v.ownBlock = some g) : base ≤ g ∧ g < w.heap.size := by
  obtain ⟨vs, ho, _⟩ := h
  exact ho.lt g hg
theorem own_below22 {w w' : World} {base n : Nat} {v : Value} {xs : List Value} (h : w.ownsRow base 25 1 v n xs) (hb : Below w.heap.size w w') : w'.ownsRow base 25 1 v n xs := by
  refine h.kept (row := none) ⟨hb.os, hb.tape, hb.output, hb.size, fun i hi _ => hb.block i hi⟩ ?_
  cases hq : v.ownBlock with
  | none => exact .inl rfl
  | some g => exact .inr (by simp)
theorem OwnL.below {w w' : World} {base n : Nat} {v : Value} {ls : List (List Nat)} (h : OwnL w base v n ls) (hb : Below w.heap.size w w') : OwnL w' base v n ls := by
  obtain ⟨vs, ho, hl, ht⟩ := h
  refine ⟨vs, own_below22 ho hb, hl, fun j hj => ?_⟩
  obtain ⟨Aj, nj, cj, hv, hT⟩ := ht j hj
  exact ⟨Aj, nj, cj, hv, (hT.below hb).mono fun b hb' => ⟨hb'.1, Nat.lt_of_lt_of_le hb'.2.1 hb.size, hb'.2.2⟩⟩
theorem OwnL.toL {w : World} {base n c : Nat} {A : Option Addr} {ls : List (List Nat)} (h : OwnL w base (.slice A n c) n ls) : TxtL (New base w) w A n c ls := by
  obtain ⟨vs, ho, hl, ht⟩ := h
  have ho' := ho
  rcases ho.2 with ⟨e, h0⟩ | ⟨g, cap, cur, e, hg, hc, h1, h2, h3, h4⟩
  · injection e with e1 e2 e3
    subst e1 e2 e3
    obtain rfl : ls = [] := List.eq_nil_of_length_eq_zero hl
    exact TxtL.nil _ _
  · injection e with e1 e2 e3
    subst e1 e3
    have hlt := ho'.lt g rfl
    refine ⟨hl, h1, h2, fun e => (by cases e), fun ad e => ?_, fun ad e j hj => ?_⟩
    · injection e with e
      subst e
      exact ⟨⟨hlt.1, hlt.2⟩, fun _ => hlt.2⟩
    · injection e with e
      subst e
      obtain ⟨Aj, nj, cj, hv, hT⟩ := ht j hj
      refine ⟨Aj, nj, cj, ?_, hT.mono fun b hb => ⟨hb.1, hb.2.1⟩⟩
      have ha : (⟨g, 0, none⟩ : Addr).add j = ⟨g, j, none⟩ := by unfold Addr.add; split <;> simp_all
      rw [ha, cell_of_row w g j cur 25 (0, 0) hc]
      rw [← h4, List.getElem?_take_of_lt (by omega), Array.getElem?_toList] at hv
      exact hv
theorem textInfo : ∃ i : TypeInfo, Tryz.prog.info? 25 = some i ∧ i.zero = some (.slice none 0 0) ∧ i.size = 1 ∧ i.bytes = 24 := by
  have h : (Tryz.prog.info? 25).map (fun i => (i.zero, i.size, i.bytes)) = some (some (.slice none 0 0), 1, 24) := by kernel_rfl
  obtain ⟨i, hi, e⟩ := Option.map_eq_some_iff.1 h
  simp only [Prod.mk.injEq] at e
  exact ⟨i, hi, e.1, e.2.1, e.2.2⟩
theorem run_append_one {w : World} (base k n c h : Nat) (ty : TypeId) (v : Value) (ls : List (List Nat)) (s : List Nat) (A : Option Addr) (hO : OwnL w base v k ls)
    (hT : Txt (fun b => base ≤ b ∧ b < w.heap.size ∧ v.ownBlock ≠ some b) w A n c s) (hh : w.cell? ⟨h, 0, none⟩ = some (.slice A n c)) (hk : k ≤ 8388608) (hbase : base ≤ w.heap.size) :
    ∃ v' w', (Builtin.append_ #[89, 89] ty #[v, .slice (some ⟨h, 0, none⟩) 1 1]).run Tryz.prog w = .ok v' w' ∧ OwnL w' base v' (k + 1) (ls ++ [s]) ∧ w.grownBy w' v.ownBlock := by
  obtain ⟨i, hi, hz, hsz, hby⟩ := textInfo
  obtain ⟨vs, ho, hl, ht⟩ := hO
  obtain ⟨v', w', hrun, h1, h2, h3, h4⟩ := run_append_own_at (P := Tryz.prog) w base 89 ty 25 i (.slice none 0 0) 1 24 Tryz.underlying89 hi hz hsz hby rfl (by omega) _ k vs ho ⟨h, 0, none⟩ 1 1 [.slice A n c] rfl
    (fun j u hu => by
      cases j with
      | zero => simp at hu; subst hu; exact hh
      | succ j => simp at hu)
    (fun u hu => by simp at hu; subst hu; rfl) (by unfold maxLen; omega) (by omega) hbase
  refine ⟨v', w', hrun, ⟨_, h1, by rw [List.length_append, hl]; rfl, fun j hj => ?_⟩, h2⟩
  have hvl : vs.length = k := by have := ho.1; omega
  have hS : ∀ b, (base ≤ b ∧ b < w.heap.size ∧ v.ownBlock ≠ some b) → base ≤ b ∧ b < w'.heap.size ∧ v'.ownBlock ≠ some b := by
    intro b hb
    refine ⟨hb.1, Nat.lt_of_lt_of_le hb.2.1 h2.size, ?_⟩
    rcases h4 with h4 | h4
    · rw [h4]; exact hb.2.2
    · rw [h4]; intro e; injection e with e; omega
  have hkeep : ∀ {A' n' c' s'}, Txt (fun b => base ≤ b ∧ b < w.heap.size ∧ v.ownBlock ≠ some b) w A' n' c' s' → Txt (fun b => base ≤ b ∧ b < w'.heap.size ∧ v'.ownBlock ≠ some b) w' A' n' c' s' := fun hT' =>
    (hT'.kept h2.size fun b hb hlt => h2.block b hlt (fun e => hb.2.2 e.symm)).mono hS
  by_cases hj' : j < k
  · obtain ⟨Aj, nj, cj, hv, hT'⟩ := ht j hj'
    refine ⟨Aj, nj, cj, by rw [List.getElem?_append_left (by omega)]; exact hv, ?_⟩
    have e : (ls ++ [s]).getD j [] = ls.getD j [] := by
      rw [List.getD_eq_getElem?_getD, List.getD_eq_getElem?_getD, List.getElem?_append_left (by omega)]
    rw [e]; exact hkeep hT'
  · obtain rfl : j = k := by omega
    refine ⟨A, n, c, by rw [List.getElem?_append_right (by omega), hvl]; simp, ?_⟩
    have e : (ls ++ [s]).getD j [] = s := by
      rw [List.getD_eq_getElem?_getD, List.getElem?_append_right (by omega), hl]; simp
    rw [e]; exact hkeep hT
theorem wpList_append_one {ops : Array Oper} {rest : List Oper} {o : Oper} {a : Act} {w : World} {Q : Exit → Act → World → Prop} (hgd : o.guard = none) (s x : Operand)
    (ho : o.op = .call { callee := .builtin .append, args := #[s, x], argTypes := #[89, 89] }) (base k n c h : Nat) (v : Value) (ls : List (List Nat)) (t : List Nat) (A : Option Addr)
    (hs : a.eval s = v) (hx : a.eval x = .slice (some ⟨h, 0, none⟩) 1 1) (hO : OwnL w base v k ls) (hT : Txt (fun b => base ≤ b ∧ b < w.heap.size ∧ v.ownBlock ≠ some b) w A n c t)
    (hh : w.cell? ⟨h, 0, none⟩ = some (.slice A n c)) (hk : k ≤ 8388608) (hbase : base ≤ w.heap.size)
    (kk : ∀ v' w', OwnL w' base v' (k + 1) (ls ++ [t]) → w.grownBy w' v.ownBlock → wpList Tryz.prog ops Q rest (a.put o.dst v') w') :
    wpList Tryz.prog ops Q (o :: rest) a w := by
  refine wpList_plain hgd fun K hK => ?_
  obtain ⟨v', w', hrun, h1, h2⟩ := run_append_one base k n c h o.type v ls t A hO hT hh hk hbase
  unfold Oper.wp execOp
  simp only [ho, resolve, invoke, builtin, Sem.run_bind, Sem.run_pure, Result.andThen_ok, List.map_toArray, List.map_cons, List.map_nil, hs, hx, hrun]
  exact hK _ _ (kk v' w' h1 h2)
theorem below_ownL {w w1 w2 : World} {v : Value} {base n : Nat} {ls : List (List Nat)} (h : Below w.heap.size w w1) (ho : OwnL w1 base v n ls) (hb : w.heap.size ≤ base) (k : w1.grownBy w2 v.ownBlock) : Below w.heap.size w w2 := by
  refine ⟨k.os.trans h.os, k.tape.trans h.tape, k.output.trans h.output, Nat.le_trans h.size k.size, fun i hi => (k.block i (Nat.lt_of_lt_of_le hi h.size) ?_).trans (h.block i hi)⟩
  intro e
  have := (ho.lt e.symm).1
  omega

/-- a list told, with an error -/
def GotLE (r : List (List Nat) × Nat) (w : World) (e : Ending) (w' : World) : Prop :=
  ∃ A n c, e = .returned (.tuple #[.slice A n c, .int .i64 r.2]) ∧ TxtL (New w.heap.size w') w' A n c r.1 ∧ Below w.heap.size w w'
theorem getT_ok {b : List Nat} (hb : ∀ j, gt b j < 256) {p : Nat} (hp : p ≤ b.length) (h : (getT b p).2.2 = 0) : p < (getT b p).2.1 ∧ (getT b p).2.1 ≤ b.length ∧ (txAt b p).2.2 = 0 := by
  unfold getT at h ⊢
  rw [txI_nat _ _ hp] at h ⊢
  by_cases h1 : (txAt b p).2.2 ≠ 0
  · rw [if_pos h1] at h; exact absurd h h1
  rw [if_neg h1] at h ⊢
  obtain ⟨k1, k2, k3, -, -⟩ := txAt_ok hb (by omega : (txAt b p).2.2 = 0)
  refine ⟨?_, k3, by omega⟩
  show p < (txAt b p).2.1
  omega
theorem txs_step {b : List Nat} {p f : Nat} {acc : List (List Nat)} (hp : p < b.length) (hf : b.length - p ≤ f) :
    txs b f p acc = if (getT b p).2.2 ≠ 0 then ([], (getT b p).2.2) else txs b (f - 1) (getT b p).2.1 (acc ++ [(getT b p).1]) := by
  obtain ⟨f', rfl⟩ : ∃ f', f = f' + 1 := ⟨f - 1, by omega⟩
  rw [Nat.add_sub_cancel]
  unfold getT
  rw [txI_nat _ _ (by omega)]
  conv => lhs; unfold txs
  rw [if_neg (by omega)]
  by_cases h1 : (txAt b p).2.2 ≠ 0
  · rw [if_pos h1, if_pos h1]
    rw [if_pos h1]
  · rw [if_neg h1, if_neg h1]
    rw [if_neg (by simp)]
theorem txs_end {b : List Nat} {p f : Nat} {acc : List (List Nat)} (hp : b.length ≤ p) : txs b f p acc = (acc, 0) := by
  cases f with
  | zero => rfl
  | succ f => unfold txs; rw [if_pos hp]

end Go.Proofs.YtakglldffpnlaaaGreatDoor.Wr

namespace Go.Proofs.YtakglldffpnlaaaGreatDoor.Wr
set_option linter.all false
open Go.RowKit

/-- a list got -/
def GotL (r : List (List Nat) × Nat × Nat) (w : World) (e : Ending) (w' : World) : Prop :=
  ∃ A n c, e = .returned (.tuple #[.slice A n c, .int .i64 r.2.1, .int .i64 r.2.2]) ∧ TxtL (New w.heap.size w') w' A n c r.1 ∧ Below w.heap.size w w'
theorem cat_take_succ (ls : List (List Nat)) (k : Nat) (h : k < ls.length) : cat (ls.take (k + 1)) = cat (ls.take k) ++ txB (ls.getD k []) := by
  rw [List.take_succ_eq_append_getElem h, cat_append, cat_one, List.getD_eq_getElem?_getD, List.getElem?_eq_getElem h]; rfl
theorem cat_take_le (ls : List (List Nat)) (k : Nat) : (cat (ls.take k)).length ≤ (cat ls).length := by
  conv => rhs; rw [← List.take_append_drop k ls]
  rw [cat_append, List.length_append]; omega
theorem putT_no {s : List Nat} (h : ¬ s.length ≤ 1048576) : putT s = ([], 2) := by unfold putT; rw [if_pos (by omega)]
theorem putT_yes {s : List Nat} (h : s.length ≤ 1048576) : putT s = (txB s, 0) := by unfold putT; rw [if_neg (by omega)]
theorem putL_no {ls : List (List Nat)} (h : 1048576 < (cat ls).length) : putL ls = ([], 2) := by unfold putL; rw [if_pos h]
theorem own_gen {w w' : World} {base n : Nat} {v : Value} {xs : List Value} (h : w.ownsRow base 5 1 v n xs) (hb : Below w.heap.size w w') : w'.ownsRow base 5 1 v n xs := by
  refine h.kept (row := none) ⟨hb.os, hb.tape, hb.output, hb.size, fun i hi _ => hb.block i hi⟩ ?_
  cases hq : v.ownBlock with
  | none => exact .inl rfl
  | some g => exact .inr (by simp)
theorem txtL_at {S : Nat → Prop} {w : World} {ad : Addr} {n c : Nat} {ls : List (List Nat)} (h : TxtL S w (some ad) n c ls) (j : Nat) (hj : j < n) :
    ∃ Aj nj cj, w.cell? (ad.add j) = some (.slice Aj nj cj) ∧ Txt S w Aj nj cj (ls.getD j []) := h.2.2.2.2.2 ad rfl j hj

end Go.Proofs.YtakglldffpnlaaaGreatDoor.Wr

namespace Go.Proofs.YtakglldffpnlaaaGreatDoor.Wr
set_option linter.all false
open Go.RowKit

theorem built (w : World) (l : List Nat) (cs : Array Value) (fr : Nat × Nat) (n : Nat) (hl : l.length = n) (hx : ∀ j, gt l j < 256) (hc : ∀ j, j < n → cs[j]? = some (.int .u8 ((gt l j : Nat) : Int))) (hn : n ≤ 1000) :
    Txt Any (w.alloc (.cells cs 5 fr)) (some ⟨w.heap.size, 0, none⟩) n n l := by
  refine ⟨⟨hx, fun _ => ⟨_, rfl, by simp, fun j hj => ?_⟩⟩, hl, Nat.le_refl _, by omega, fun e => (by cases e), fun _ _ => True.intro⟩
  have ha : (⟨w.heap.size, 0, none⟩ : Addr).add j = ⟨w.heap.size, j, none⟩ := by unfold Addr.add; split <;> simp_all
  rw [ha, cell_of_row _ _ j _ 5 fr (heap_alloc_last w _)]
  exact hc j (by omega)
theorem three {P : Nat → Prop} {n : Nat} (hn : n ≤ 3) (h0 : P 0) (h1 : P 1) (h2 : P 2) : ∀ j, j < n → P j := by
  intro j hj
  match j, hj with
  | 0, _ => exact h0
  | 1, _ => exact h1
  | 2, _ => exact h2
  | j + 3, h => omega
theorem two {P : Nat → Prop} {n : Nat} (hn : n ≤ 2) (h0 : P 0) (h1 : P 1) : ∀ j, j < n → P j := by
  intro j hj
  match j, hj with
  | 0, _ => exact h0
  | 1, _ => exact h1
  | j + 2, h => omega
theorem headA : putT [97, 98] = ([2, 97, 98], 0) := by decide +kernel
theorem headB : getT [64, 1, 97] 0 = ([], 0, 112) := by decide +kernel
theorem headC : numB 258 2 = [1, 2] := by decide +kernel
theorem headD : numB 256 1 = [] := by decide +kernel

end Go.Proofs.YtakglldffpnlaaaGreatDoor.Wr
