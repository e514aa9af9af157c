/- Walks: lengthAt. -/
import Derived.Test.YthjoafldndgahaaDoorWrWalkE
import Derived.WalkMore
namespace Go.Proofs.YthjoafldndgahaaDoor.Wr
set_option linter.all false
open Go.RowKit

def SayB (r : Nat × Nat × Nat) (w : World) (e : Ending) (w' : World) : Prop := e = .returned (.tuple #[.int .i64 r.1, .int .i64 r.2.1, .int .i64 r.2.2]) ∧ Below w.heap.size w w'
theorem getN_short {b : List Nat} (hb : ∀ j, gt b j < 256) {p k : Nat} (hp : p ≤ b.length) (hk : k = 1 ∨ k = 2 ∨ k = 4) :
    getN b (p : Int) (k : Int) = if b.length < p + k then (0, 0, 111) else (num b p k, p + k, 0) := by
  have h2 : okS (k : Int) = true := by rcases hk with rfl | rfl | rfl <;> rfl
  have h1 : okP b.length (p : Int) = true := by simp [okP]; omega
  unfold getN
  rw [if_neg (by rw [h1, h2]; simp), Int.toNat_natCast, Int.toNat_natCast]
  by_cases h3 : b.length < p + k
  · rw [if_pos h3, if_pos h3]
  · rw [if_neg h3, if_neg h3, if_neg]
    have := num_lt b hb p k (by omega)
    have h4 : 256 ^ k ≤ 256 ^ 4 := Nat.pow_le_pow_right (by omega) (by omega)
    omega
theorem lenAt_big {b : List Nat} {p : Nat} (hp : p < b.length) (h : 192 ≤ gt b p) : lenAt b p = (0, 0, 112) := by
  unfold lenAt; rw [if_neg (by omega), if_pos h]
theorem lenAt_cls {b : List Nat} {p s : Nat} (hp : p < b.length) (h : gt b p < 192) (hs : cls (gt b p) = s) :
    lenAt b p = if b.length < p + s then (0, 0, 111) else if num b p s < least s + mark s then (0, 0, 112) else (num b p s - mark s, p + s, 0) := by
  subst hs
  unfold lenAt; rw [if_neg (by omega), if_neg (by omega)]

theorem part_at (W : World) (g : Nat) (cs : Array Value) (h : W.heap[g]? = some (.cells cs 59 (0, 0))) (hs : cs.size = 4) :
    (partAt ⟨g, 0, none⟩ 3 24).run Tryd.prog W = .ok ⟨g, 3, none⟩ W ∧ (partAt ⟨g, 0, none⟩ 2 16).run Tryd.prog W = .ok ⟨g, 2, none⟩ W := by
  have e1 : Tryd.prog.cellsOf 59 = 4 := by kernel_rfl
  have e2 : byteOfCell Tryd.prog Tryd.prog.depth 59 0 = some 0 := by kernel_rfl
  have e3 : byteOfCell Tryd.prog Tryd.prog.depth 59 3 = some 24 := by kernel_rfl
  have e5 : byteOfCell Tryd.prog Tryd.prog.depth 59 2 = some 16 := by kernel_rfl
  have e4 : Tryd.prog.bytesOf 59 = 32 := by kernel_rfl
  constructor
  · simp [partAt, byteOf, noView, viewAt, World.shape?, h, hs, e1, e2, e3, e4]
  · simp [partAt, byteOf, noView, viewAt, World.shape?, h, hs, e1, e2, e5, e4]

set_option maxHeartbeats 2000000 in
set_option maxRecDepth 100000 in
theorem lengthAt_any (A : Option Addr) (b : List Nat) (n c p : Nat) (w : World) (hT : Tables w) (hA : Txt Any w A n c b) (hp : p ≤ n) (hn : n ≤ 8388608) (r : Nat × Nat × Nat) (hr : Hid (lenAt b p = r)) :
    Calls Tryd.prog 36 #[.slice A n c, .int .i64 p] w (SayB r w) := by
  have hl := hA.len
  by_cases hpn : p = n
  · have HR : Hid ((0, 0, 111) = r) := Lib.hid (by rw [← hr.out]; unfold lenAt; rw [if_pos (by omega)])
    have y1 : (p : Int) = (n : Int) := by omega
    go_enter Tryd.func36, Tryd.ntmps36
    go_wp2
    go_step3
    go_wp2
    go_ret3
    exact ⟨by rw [← HR.out]; rfl, Below.refl _ _⟩
  · obtain ⟨ad, rfl⟩ := hA.some (by omega)
    have HA := Lib.hid hA
    obtain ⟨x, hx⟩ : ∃ x, gt b p = x := ⟨_, rfl⟩
    have HX := Lib.hid (show w.cell? (ad.add p) = some (.int .u8 (x : Nat)) by rw [← hx]; exact hA.cell p (by omega))
    have hx256 : x < 256 := by rw [← hx]; exact hA.lt p
    have had : ad.block < w.heap.size := by obtain ⟨ad', e, h1, _⟩ := hA.1.2 (by omega); injection e with e; subst e; exact h1
    have HBIG := Lib.hid (fun h : 192 ≤ x => (show r = (0, 0, 112) by rw [← hr.out]; exact lenAt_big (by omega) (by rw [hx]; exact h)))
    have HCLS := Lib.hid (fun (s : Nat) (h : x < 192) (hs : cls x = s) => (show r = if n < p + s then (0, 0, 111) else if num b p s < least s + mark s then (0, 0, 112) else (num b p s - mark s, p + s, 0) by
      rw [← hr.out, ← hl]; exact lenAt_cls (by omega) (by rw [hx]; exact h) (by rw [hx]; exact hs)))
    have HGET := Lib.hid (fun (k : Nat) (hk : k = 1 ∨ k = 2 ∨ k = 4) => (show getN b (p : Int) (k : Int) = if n < p + k then (0, 0, 111) else (num b p k, p + k, 0) by rw [← hl]; exact getN_short hA.lt (by omega) hk))
    have HNUM := Lib.hid (fun (k : Nat) (hk : p + k ≤ n) => num_lt b hA.lt p k (by omega))
    have y1 : ¬ (p : Int) = (n : Int) := by omega
    have hpl : p < n := by omega
    have hlt := hT.lt
    have HT := Lib.hid hT
    have c0 : w.cell? ⟨0, 0, none⟩ = some (.int .i64 1) := hT.cells 0 _ rfl
    have c1 : w.cell? ⟨0, 1, none⟩ = some (.int .u8 64) := hT.cells 1 _ rfl
    have c2 : w.cell? ⟨0, 2, none⟩ = some (.int .i64 0) := hT.cells 2 _ rfl
    have c3 : w.cell? ⟨0, 3, none⟩ = some (.int .i64 64) := hT.cells 3 _ rfl
    have c4 : w.cell? ⟨0, 4, none⟩ = some (.int .i64 2) := hT.cells 4 _ rfl
    have c5 : w.cell? ⟨0, 5, none⟩ = some (.int .u8 128) := hT.cells 5 _ rfl
    have c6 : w.cell? ⟨0, 6, none⟩ = some (.int .i64 16384) := hT.cells 6 _ rfl
    have c7 : w.cell? ⟨0, 7, none⟩ = some (.int .i64 16384) := hT.cells 7 _ rfl
    have c8 : w.cell? ⟨0, 8, none⟩ = some (.int .i64 4) := hT.cells 8 _ rfl
    have c9 : w.cell? ⟨0, 9, none⟩ = some (.int .u8 192) := hT.cells 9 _ rfl
    have c10 : w.cell? ⟨0, 10, none⟩ = some (.int .i64 2147483648) := hT.cells 10 _ rfl
    have c11 : w.cell? ⟨0, 11, none⟩ = some (.int .i64 1073741824) := hT.cells 11 _ rfl
    clear hx hT hA hl
    go_enter Tryd.func36, Tryd.ntmps36
    go_wp2
    go_step3
    go_wp2
    go_step3
    go_wp2
    clear c0 c1 c2 c3 c4 c5 c6 c7 c8 c9 c10 c11
    first | rw [show decide ((p : Int) = (n : Int)) = false from decide_eq_false y1] | rw [show ((p : Int) == (n : Int)) = false from beq_eq_false_iff_ne.2 y1]
    go_loopw [7, 18] (fun v i W => ∃ (k l : Nat), i = .int .i64 k ∧ v = .int .i64 l ∧ ((k = 0 ∧ l = 0) ∨ (k = 1 ∧ l = 64 ∧ 64 ≤ x) ∨ (k = 2 ∧ l = 16384 ∧ 128 ≤ x) ∨ (k = 3 ∧ 192 ≤ x)) ∧ Hid (Below w.heap.size w W)) (fun _ i _ => 4 - (intOf i).toNat)
    case atStart => exact ⟨0, 0, rfl, rfl, .inl ⟨rfl, rfl⟩, Lib.hid (Below.refl _ _)⟩
    case round =>
      obtain ⟨k, l, rfl, rfl, hk, HB⟩ := hrel
      rcases hk with ⟨rfl, rfl⟩ | ⟨rfl, rfl, hk⟩ | ⟨rfl, rfl, hk⟩ | ⟨rfl, hk⟩
      · have hix := class0
        have HB1 := Lib.hid (HB.out.alloc HB.out.size (.cells #[.int .i64 1, .int .u8 64, .int .i64 0, .int .i64 64] 59))
        have cx : wr.cell? (ad.add p) = some (.int .u8 (x : Nat)) := by rw [HB.out.cell (by rw [add_block]; exact had)]; exact HX.out
        have cy : (wr.alloc (.cells #[.int .i64 1, .int .u8 64, .int .i64 0, .int .i64 64] 59)).cell? (ad.add p) = some (.int .u8 (x : Nat)) := by rw [HB1.out.cell (by rw [add_block]; exact had)]; exact HX.out
        have HD := heap_alloc_last wr (.cells #[.int .i64 1, .int .u8 64, .int .i64 0, .int .i64 64] 59)
        have f0 : (wr.alloc (.cells #[.int .i64 1, .int .u8 64, .int .i64 0, .int .i64 64] 59)).cell? ⟨wr.heap.size, 0, none⟩ = some (.int .i64 1) := by rw [cell_of_row _ _ 0 _ 59 (0, 0) HD]; rfl
        have f1 : (wr.alloc (.cells #[.int .i64 1, .int .u8 64, .int .i64 0, .int .i64 64] 59)).cell? ⟨wr.heap.size, 1, none⟩ = some (.int .u8 64) := by rw [cell_of_row _ _ 1 _ 59 (0, 0) HD]; rfl
        have f2 : (wr.alloc (.cells #[.int .i64 1, .int .u8 64, .int .i64 0, .int .i64 64] 59)).cell? ⟨wr.heap.size, 2, none⟩ = some (.int .i64 0) := by rw [cell_of_row _ _ 2 _ 59 (0, 0) HD]; rfl
        have f3 : (wr.alloc (.cells #[.int .i64 1, .int .u8 64, .int .i64 0, .int .i64 64] 59)).cell? ⟨wr.heap.size, 3, none⟩ = some (.int .i64 64) := by rw [cell_of_row _ _ 3 _ 59 (0, 0) HD]; rfl
        obtain ⟨hq3, hq2⟩ := part_at (wr.alloc (.cells #[.int .i64 1, .int .u8 64, .int .i64 0, .int .i64 64] 59)).drew wr.heap.size _ HD rfl
        go_wp2_with fail
        refine getNumber_any (some ad) b n c p (1 : Nat) _ _ (HA.out.below HB1.out) hn (Lib.hid ?_)
        rintro e' w2 ⟨rfl, rfl⟩
        rw [HGET.out 1 (by omega)]
        clear HD cx
        generalize wr.alloc (.cells #[.int .i64 1, .int .u8 64, .int .i64 0, .int .i64 64] 59) = W1 at *
        have HB2 := Lib.hid HB1.out.drew
        by_cases hsh : n < p + 1
        · omega
        · rw [if_neg hsh]
          have HN := HNUM.out 1 (by omega)
          have HCL : Hid (x < 64 → r = if num b p 1 < 0 then (0, 0, 112) else (num b p 1 - 0, p + 1, 0)) := Lib.hid (fun h => by rw [HCLS.out 1 (by omega) (by unfold cls; rw [if_pos (by omega)]), if_neg hsh]; rfl)
          obtain ⟨N, hN⟩ : ∃ N, num b p 1 = N := ⟨_, rfl⟩
          obtain ⟨q, hq⟩ : ∃ q, p + 1 = q := ⟨_, rfl⟩
          rw [hN] at HN HCL ⊢
          rw [hq] at HCL ⊢
          have hN4 : N < 256 := HN
          clear HN hN hq HCLS HGET HNUM
          by_cases hx : 64 ≤ x
          · have yx : (64 : Int) ≤ (x : Int) := by omega
            go_wp2
            refine wp_region_still_tail 7 (by kernel_rfl) (by kernel_rfl) ?_
            simp only [List.take_succ_cons, List.take_zero, List.drop_succ_cons, List.drop_zero]
            iterate 6 still_step
            still_step
            refine wpStill_nil ?_
            change wpList _ _ _ _ _ (World.drew _)
            go_wp2
            go_roundw
            case rel => exact ⟨1, 64, by go_num, rfl, .inr (.inl ⟨rfl, rfl, by omega⟩), HB2⟩
            case measure => simp [intOf]
          · have yx : ¬ (64 : Int) ≤ (x : Int) := by omega
            by_cases hlow : N < 0
            · omega
            · have HR := Lib.hid (show r = (N - 0, q, 0) by rw [HCL.out (by omega), if_neg hlow])
              have yl : ¬ (N : Int) - 0 < 0 := by omega
              obtain ⟨m, hm, hm'⟩ : ∃ m : Nat, N - 0 = m ∧ (N : Int) - 0 = (m : Int) := ⟨_, rfl, by omega⟩
              rw [hm] at HR
              clear hm hlow HCL
              go_wp2
              refine wp_region_still_tail 7 (by kernel_rfl) (by kernel_rfl) ?_
              simp only [List.take_succ_cons, List.take_zero, List.drop_succ_cons, List.drop_zero]
              iterate 6 still_step
              still_step
              refine wpStill_nil ?_
              change wpList _ _ _ _ _ (World.drew _)
              go_wp2
              go_ret3
              exact ⟨(by rw [HR.out]; rfl), HB2.out⟩
      · have hix := class1
        have HB1 := Lib.hid (HB.out.alloc HB.out.size (.cells #[.int .i64 2, .int .u8 128, .int .i64 16384, .int .i64 16384] 59))
        have cx : wr.cell? (ad.add p) = some (.int .u8 (x : Nat)) := by rw [HB.out.cell (by rw [add_block]; exact had)]; exact HX.out
        have cy : (wr.alloc (.cells #[.int .i64 2, .int .u8 128, .int .i64 16384, .int .i64 16384] 59)).cell? (ad.add p) = some (.int .u8 (x : Nat)) := by rw [HB1.out.cell (by rw [add_block]; exact had)]; exact HX.out
        have HD := heap_alloc_last wr (.cells #[.int .i64 2, .int .u8 128, .int .i64 16384, .int .i64 16384] 59)
        have f0 : (wr.alloc (.cells #[.int .i64 2, .int .u8 128, .int .i64 16384, .int .i64 16384] 59)).cell? ⟨wr.heap.size, 0, none⟩ = some (.int .i64 2) := by rw [cell_of_row _ _ 0 _ 59 (0, 0) HD]; rfl
        have f1 : (wr.alloc (.cells #[.int .i64 2, .int .u8 128, .int .i64 16384, .int .i64 16384] 59)).cell? ⟨wr.heap.size, 1, none⟩ = some (.int .u8 128) := by rw [cell_of_row _ _ 1 _ 59 (0, 0) HD]; rfl
        have f2 : (wr.alloc (.cells #[.int .i64 2, .int .u8 128, .int .i64 16384, .int .i64 16384] 59)).cell? ⟨wr.heap.size, 2, none⟩ = some (.int .i64 16384) := by rw [cell_of_row _ _ 2 _ 59 (0, 0) HD]; rfl
        have f3 : (wr.alloc (.cells #[.int .i64 2, .int .u8 128, .int .i64 16384, .int .i64 16384] 59)).cell? ⟨wr.heap.size, 3, none⟩ = some (.int .i64 16384) := by rw [cell_of_row _ _ 3 _ 59 (0, 0) HD]; rfl
        obtain ⟨hq3, hq2⟩ := part_at (wr.alloc (.cells #[.int .i64 2, .int .u8 128, .int .i64 16384, .int .i64 16384] 59)).drew wr.heap.size _ HD rfl
        go_wp2_with fail
        refine getNumber_any (some ad) b n c p (2 : Nat) _ _ (HA.out.below HB1.out) hn (Lib.hid ?_)
        rintro e' w2 ⟨rfl, rfl⟩
        rw [HGET.out 2 (by omega)]
        clear HD cx
        generalize wr.alloc (.cells #[.int .i64 2, .int .u8 128, .int .i64 16384, .int .i64 16384] 59) = W1 at *
        have HB2 := Lib.hid HB1.out.drew
        by_cases hsh : n < p + 2
        · rw [if_pos hsh]
          by_cases hx : 128 ≤ x
          · have yx : (128 : Int) ≤ (x : Int) := by omega
            go_wp2
            refine wp_region_still_tail 7 (by kernel_rfl) (by kernel_rfl) ?_
            simp only [List.take_succ_cons, List.take_zero, List.drop_succ_cons, List.drop_zero]
            iterate 6 still_step
            still_step
            refine wpStill_nil ?_
            change wpList _ _ _ _ _ (World.drew _)
            go_wp2
            go_roundw
            case rel => exact ⟨2, 16384, by go_num, rfl, .inr (.inr (.inl ⟨rfl, rfl, by omega⟩)), HB2⟩
            case measure => simp [intOf]
          · have yx : ¬ (128 : Int) ≤ (x : Int) := by omega
            have HR := Lib.hid (show r = (0, 0, 111) by rw [HCLS.out 2 (by omega) (by unfold cls; rw [if_neg (by omega), if_pos (by omega)]), if_pos hsh])
            go_wp2
            refine wp_region_still_tail 7 (by kernel_rfl) (by kernel_rfl) ?_
            simp only [List.take_succ_cons, List.take_zero, List.drop_succ_cons, List.drop_zero]
            iterate 6 still_step
            still_step
            refine wpStill_nil ?_
            change wpList _ _ _ _ _ (World.drew _)
            go_wp2
            go_ret3
            exact ⟨(by rw [HR.out]; rfl), HB2.out⟩
        · rw [if_neg hsh]
          have HN := HNUM.out 2 (by omega)
          have HCL : Hid (x < 128 → r = if num b p 2 < 16448 then (0, 0, 112) else (num b p 2 - 16384, p + 2, 0)) := Lib.hid (fun h => by rw [HCLS.out 2 (by omega) (by unfold cls; rw [if_neg (by omega), if_pos (by omega)]), if_neg hsh]; rfl)
          obtain ⟨N, hN⟩ : ∃ N, num b p 2 = N := ⟨_, rfl⟩
          obtain ⟨q, hq⟩ : ∃ q, p + 2 = q := ⟨_, rfl⟩
          rw [hN] at HN HCL ⊢
          rw [hq] at HCL ⊢
          have hN4 : N < 65536 := HN
          clear HN hN hq HCLS HGET HNUM
          by_cases hx : 128 ≤ x
          · have yx : (128 : Int) ≤ (x : Int) := by omega
            go_wp2
            refine wp_region_still_tail 7 (by kernel_rfl) (by kernel_rfl) ?_
            simp only [List.take_succ_cons, List.take_zero, List.drop_succ_cons, List.drop_zero]
            iterate 6 still_step
            still_step
            refine wpStill_nil ?_
            change wpList _ _ _ _ _ (World.drew _)
            go_wp2
            go_roundw
            case rel => exact ⟨2, 16384, by go_num, rfl, .inr (.inr (.inl ⟨rfl, rfl, by omega⟩)), HB2⟩
            case measure => simp [intOf]
          · have yx : ¬ (128 : Int) ≤ (x : Int) := by omega
            by_cases hlow : N < 16448
            · have HR := Lib.hid (show r = (0, 0, 112) by rw [HCL.out (by omega), if_pos hlow])
              have yl : (N : Int) - 16384 < 64 := by omega
              go_wp2
              refine wp_region_still_tail 7 (by kernel_rfl) (by kernel_rfl) ?_
              simp only [List.take_succ_cons, List.take_zero, List.drop_succ_cons, List.drop_zero]
              iterate 6 still_step
              still_step
              refine wpStill_nil ?_
              change wpList _ _ _ _ _ (World.drew _)
              go_wp2
              go_ret3
              exact ⟨(by rw [HR.out]; rfl), HB2.out⟩
            · have HR := Lib.hid (show r = (N - 16384, q, 0) by rw [HCL.out (by omega), if_neg hlow])
              have yl : ¬ (N : Int) - 16384 < 64 := by omega
              obtain ⟨m, hm, hm'⟩ : ∃ m : Nat, N - 16384 = m ∧ (N : Int) - 16384 = (m : Int) := ⟨_, rfl, by omega⟩
              rw [hm] at HR
              clear hm hlow HCL
              go_wp2
              refine wp_region_still_tail 7 (by kernel_rfl) (by kernel_rfl) ?_
              simp only [List.take_succ_cons, List.take_zero, List.drop_succ_cons, List.drop_zero]
              iterate 6 still_step
              still_step
              refine wpStill_nil ?_
              change wpList _ _ _ _ _ (World.drew _)
              go_wp2
              go_ret3
              exact ⟨(by rw [HR.out]; rfl), HB2.out⟩
      · have hix := class2
        have HB1 := Lib.hid (HB.out.alloc HB.out.size (.cells #[.int .i64 4, .int .u8 192, .int .i64 2147483648, .int .i64 1073741824] 59))
        have cx : wr.cell? (ad.add p) = some (.int .u8 (x : Nat)) := by rw [HB.out.cell (by rw [add_block]; exact had)]; exact HX.out
        have cy : (wr.alloc (.cells #[.int .i64 4, .int .u8 192, .int .i64 2147483648, .int .i64 1073741824] 59)).cell? (ad.add p) = some (.int .u8 (x : Nat)) := by rw [HB1.out.cell (by rw [add_block]; exact had)]; exact HX.out
        have HD := heap_alloc_last wr (.cells #[.int .i64 4, .int .u8 192, .int .i64 2147483648, .int .i64 1073741824] 59)
        have f0 : (wr.alloc (.cells #[.int .i64 4, .int .u8 192, .int .i64 2147483648, .int .i64 1073741824] 59)).cell? ⟨wr.heap.size, 0, none⟩ = some (.int .i64 4) := by rw [cell_of_row _ _ 0 _ 59 (0, 0) HD]; rfl
        have f1 : (wr.alloc (.cells #[.int .i64 4, .int .u8 192, .int .i64 2147483648, .int .i64 1073741824] 59)).cell? ⟨wr.heap.size, 1, none⟩ = some (.int .u8 192) := by rw [cell_of_row _ _ 1 _ 59 (0, 0) HD]; rfl
        have f2 : (wr.alloc (.cells #[.int .i64 4, .int .u8 192, .int .i64 2147483648, .int .i64 1073741824] 59)).cell? ⟨wr.heap.size, 2, none⟩ = some (.int .i64 2147483648) := by rw [cell_of_row _ _ 2 _ 59 (0, 0) HD]; rfl
        have f3 : (wr.alloc (.cells #[.int .i64 4, .int .u8 192, .int .i64 2147483648, .int .i64 1073741824] 59)).cell? ⟨wr.heap.size, 3, none⟩ = some (.int .i64 1073741824) := by rw [cell_of_row _ _ 3 _ 59 (0, 0) HD]; rfl
        obtain ⟨hq3, hq2⟩ := part_at (wr.alloc (.cells #[.int .i64 4, .int .u8 192, .int .i64 2147483648, .int .i64 1073741824] 59)).drew wr.heap.size _ HD rfl
        go_wp2_with fail
        refine getNumber_any (some ad) b n c p (4 : Nat) _ _ (HA.out.below HB1.out) hn (Lib.hid ?_)
        rintro e' w2 ⟨rfl, rfl⟩
        rw [HGET.out 4 (by omega)]
        clear HD cx
        generalize wr.alloc (.cells #[.int .i64 4, .int .u8 192, .int .i64 2147483648, .int .i64 1073741824] 59) = W1 at *
        have HB2 := Lib.hid HB1.out.drew
        by_cases hsh : n < p + 4
        · rw [if_pos hsh]
          by_cases hx : 192 ≤ x
          · have yx : (192 : Int) ≤ (x : Int) := by omega
            go_wp2
            refine wp_region_still_tail 7 (by kernel_rfl) (by kernel_rfl) ?_
            simp only [List.take_succ_cons, List.take_zero, List.drop_succ_cons, List.drop_zero]
            iterate 6 still_step
            still_step
            refine wpStill_nil ?_
            change wpList _ _ _ _ _ (World.drew _)
            go_wp2
            go_roundw
            case rel => exact ⟨3, 1073741824, by go_num, rfl, .inr (.inr (.inr ⟨rfl, by omega⟩)), HB2⟩
            case measure => simp [intOf]
          · have yx : ¬ (192 : Int) ≤ (x : Int) := by omega
            have HR := Lib.hid (show r = (0, 0, 111) by rw [HCLS.out 4 (by omega) (by unfold cls; rw [if_neg (by omega), if_neg (by omega)]), if_pos hsh])
            go_wp2
            refine wp_region_still_tail 7 (by kernel_rfl) (by kernel_rfl) ?_
            simp only [List.take_succ_cons, List.take_zero, List.drop_succ_cons, List.drop_zero]
            iterate 6 still_step
            still_step
            refine wpStill_nil ?_
            change wpList _ _ _ _ _ (World.drew _)
            go_wp2
            go_ret3
            exact ⟨(by rw [HR.out]; rfl), HB2.out⟩
        · rw [if_neg hsh]
          have HN := HNUM.out 4 (by omega)
          have HCL : Hid (x < 192 → r = if num b p 4 < 2147500032 then (0, 0, 112) else (num b p 4 - 2147483648, p + 4, 0)) := Lib.hid (fun h => by rw [HCLS.out 4 (by omega) (by unfold cls; rw [if_neg (by omega), if_neg (by omega)]), if_neg hsh]; rfl)
          obtain ⟨N, hN⟩ : ∃ N, num b p 4 = N := ⟨_, rfl⟩
          obtain ⟨q, hq⟩ : ∃ q, p + 4 = q := ⟨_, rfl⟩
          rw [hN] at HN HCL ⊢
          rw [hq] at HCL ⊢
          have hN4 : N < 4294967296 := HN
          clear HN hN hq HCLS HGET HNUM
          by_cases hx : 192 ≤ x
          · have yx : (192 : Int) ≤ (x : Int) := by omega
            go_wp2
            refine wp_region_still_tail 7 (by kernel_rfl) (by kernel_rfl) ?_
            simp only [List.take_succ_cons, List.take_zero, List.drop_succ_cons, List.drop_zero]
            iterate 6 still_step
            still_step
            refine wpStill_nil ?_
            change wpList _ _ _ _ _ (World.drew _)
            go_wp2
            go_roundw
            case rel => exact ⟨3, 1073741824, by go_num, rfl, .inr (.inr (.inr ⟨rfl, by omega⟩)), HB2⟩
            case measure => simp [intOf]
          · have yx : ¬ (192 : Int) ≤ (x : Int) := by omega
            by_cases hlow : N < 2147500032
            · have HR := Lib.hid (show r = (0, 0, 112) by rw [HCL.out (by omega), if_pos hlow])
              have yl : (N : Int) - 2147483648 < 16384 := by omega
              go_wp2
              refine wp_region_still_tail 7 (by kernel_rfl) (by kernel_rfl) ?_
              simp only [List.take_succ_cons, List.take_zero, List.drop_succ_cons, List.drop_zero]
              iterate 6 still_step
              still_step
              refine wpStill_nil ?_
              change wpList _ _ _ _ _ (World.drew _)
              go_wp2
              go_ret3
              exact ⟨(by rw [HR.out]; rfl), HB2.out⟩
            · have HR := Lib.hid (show r = (N - 2147483648, q, 0) by rw [HCL.out (by omega), if_neg hlow])
              have yl : ¬ (N : Int) - 2147483648 < 16384 := by omega
              obtain ⟨m, hm, hm'⟩ : ∃ m : Nat, N - 2147483648 = m ∧ (N : Int) - 2147483648 = (m : Int) := ⟨_, rfl, by omega⟩
              rw [hm] at HR
              clear hm hlow HCL
              go_wp2
              refine wp_region_still_tail 7 (by kernel_rfl) (by kernel_rfl) ?_
              simp only [List.take_succ_cons, List.take_zero, List.drop_succ_cons, List.drop_zero]
              iterate 6 still_step
              still_step
              refine wpStill_nil ?_
              change wpList _ _ _ _ _ (World.drew _)
              go_wp2
              go_ret3
              exact ⟨(by rw [HR.out]; rfl), HB2.out⟩
      · have HR := Lib.hid (HBIG.out hk)
        go_wp2
        go_ret3
        exact ⟨(by rw [HR.out]; rfl), HB.out⟩
end Go.Proofs.YthjoafldndgahaaDoor.Wr
