/- Walks: level. Written by tools/mk_smlevel.py, then by hand. -/
import Derived.Test.YtaihlmedeebimaaLgWalkG
import Derived.Deep.RegionWith
namespace Go.Proofs.Ytaihlmedeebimaa.Lg
open Go.RowKit
set_option linter.all false

def partl (L f : Nat → F) (n s t : Nat) : Nat → Int := fun i => if i < s ∨ (s ≤ i ∧ i < s + t) ∨ (s + n ≤ i ∧ i < s + n + t) then nv (L i) else nv (f i)
theorem partl_low (L f : Nat → F) (n s t : Nat) (h : t < n) : partl L f n s t (s + t) = nv (f (s + t)) ∧ partl L f n s t (s + t + n) = nv (f (s + t + n)) := by
  unfold partl; exact ⟨by rw [if_neg (by omega)], by rw [if_neg (by omega)]⟩
theorem partl_succ {w : World} {g : Nat} {ty : TypeId} {L f : Nat → F} {n s t : Nat} (h : t < n) (hR : w.rowIs g ty 256 (ints (partl L f n s t))) {x y : F} (hx : L (s + t) = x) (hy : L (s + t + n) = y) :
    ((w.setCell ⟨g, s + t, none⟩ (.int .i64 (nv x))).setCell ⟨g, s + t + n, none⟩ (.int .i64 (nv y))).rowIs g ty 256 (ints (partl L f n s (t + 1))) :=
  row_is (row_set (row_set hR _ _) _ _) fun i _ => by
    unfold partl
    by_cases e1 : i = s + t + n
    · subst e1; rw [if_pos rfl, if_pos (by omega), hy]
    · rw [if_neg e1]
      by_cases e2 : i = s + t
      · subst e2; rw [if_pos rfl, if_pos (by omega), hx]
      · rw [if_neg e2]
        by_cases e3 : i < s ∨ (s ≤ i ∧ i < s + t) ∨ (s + n ≤ i ∧ i < s + n + t)
        · rw [if_pos e3, if_pos (by omega)]
        · rw [if_neg e3, if_neg (by omega)]
theorem partl_next (L f : Nat → F) (n s : Nat) : partl L f n s n = partl L f n (s + 2 * n) 0 := by
  funext i
  unfold partl
  by_cases e : i < s + 2 * n
  · rw [if_pos (by omega), if_pos (by omega)]
  · rw [if_neg (by omega), if_neg (by omega)]
theorem partl_zero (L f : Nat → F) (n : Nat) : partl L f n 0 0 = up f := by
  funext i; unfold partl up; rw [if_neg (by omega)]
theorem partl_all {w : World} {g : Nat} {ty : TypeId} {L f : Nat → F} {n : Nat} (hR : w.rowIs g ty 256 (ints (partl L f n 256 0))) : w.rowIs g ty 256 (ints (up L)) :=
  row_is hR fun i hi => by unfold partl up; rw [if_pos (by omega)]
theorem rowIs_drew' {w : World} {b : Nat} {t : TypeId} {n : Nat} {f : Nat → Value} (h : w.rowIs b t n f) : w.drew.rowIs b t n f := h
theorem only_drew {a w : World} {row : Option Nat} (h : a.grownBy w row) : a.grownBy w.drew row := ⟨h.os, h.tape, h.output, h.size, h.block⟩
theorem only_alloc {a w : World} {row : Option Nat} (h : a.grownBy w row) (x : Obj) : a.grownBy (w.alloc x) row :=
  ⟨h.os, h.tape, h.output, Nat.le_trans h.size (by simp), fun i hi hne => (Below.heap_alloc w x i (Nat.lt_of_lt_of_le hi h.size)).trans (h.block i hi hne)⟩
theorem only_set {a w : World} {g : Nat} (h : a.grownBy w (some g)) {p : Addr} (hp : p.block = g ∨ a.heap.size ≤ p.block) (u : Value) : a.grownBy (w.setCell p u) (some g) :=
  ⟨h.os, h.tape, h.output, by simpa [World.setCell] using h.size, fun i hi hne => (Below.heap_setCell w p u i (by
    rintro rfl
    rcases hp with hp | hp
    · exact hne (by rw [hp])
    · omega)).trans (h.block i hi hne)⟩
theorem only_setRow {a w : World} {g g' : Nat} (h : a.grownBy w (some g)) (hp : a.heap.size ≤ g') (cs : Array Value) : a.grownBy (w.setRow g' cs) (some g) :=
  ⟨h.os, h.tape, h.output, by simpa using h.size, fun i hi hne => (setRow_other w g' i cs (by omega)).trans (h.block i hi hne)⟩
/-- what level has about it -/
structure LV (w W : World) (Z : Array Value) (L f : Nat → F) (n s t kb zb k : Nat) : Prop where
  row : W.rowIs w.heap.size 23 256 (ints (partl L f n s t))
  res : W.heap[w.heap.size + 1]? = some (.cells Z 23 (0, 0))
  cnt : W.rowIs kb 3 1 (one1 k)
  pows : W.rowIs zb 22 256 (ints zvi)
  only : w.grownBy W (some kb)
theorem LV.drew {w W : World} {Z : Array Value} {L f : Nat → F} {n s t kb zb k : Nat} (h : LV w W Z L f n s t kb zb k) : LV w W.drew Z L f n s t kb zb k := ⟨h.row, h.res, h.cnt, h.pows, only_drew h.only⟩
theorem LV.step {w W : World} {Z : Array Value} {L f : Nat → F} {n s t kb zb k : Nat} (h : LV w W Z L f n s t kb zb k) (ht : t < n) (hk : kb < w.heap.size) (hz : zb < w.heap.size) {x y : F} (hx : L (s + t) = x) (hy : L (s + t + n) = y) :
    LV w ((W.setCell ⟨w.heap.size, s + t, none⟩ (.int .i64 (nv x))).setCell ⟨w.heap.size, s + t + n, none⟩ (.int .i64 (nv y))) Z L f n s (t + 1) kb zb k :=
  ⟨partl_succ ht h.row hx hy, (Below.heap_setCell _ _ _ _ (by show w.heap.size + 1 ≠ w.heap.size; omega)).trans ((Below.heap_setCell _ _ _ _ (by show w.heap.size + 1 ≠ w.heap.size; omega)).trans h.res),
    (h.cnt.setOther (by show kb ≠ w.heap.size; omega) _).setOther (by show kb ≠ w.heap.size; omega) _, (h.pows.setOther (by show zb ≠ w.heap.size; omega) _).setOther (by show zb ≠ w.heap.size; omega) _,
    only_set (only_set h.only (.inr (Nat.le_refl _)) _) (.inr (Nat.le_refl _)) _⟩
theorem LV.tick {w W : World} {Z : Array Value} {L f : Nat → F} {n s t kb zb k : Nat} (h : LV w W Z L f n s t kb zb k) (hk : kb < w.heap.size) (hne : zb ≠ kb) (k' : Nat) :
    LV w (W.setCell ⟨kb, 0, none⟩ (.int .i64 (k' : Int))) Z L f n s t kb zb k' :=
  ⟨h.row.setOther (by show w.heap.size ≠ kb; omega) _, (Below.heap_setCell _ _ _ _ (by show w.heap.size + 1 ≠ kb; omega)).trans h.res, one1_set h.cnt, h.pows.setOther hne _, only_set h.only (.inl rfl) _⟩
theorem mul_room {b m n : Nat} (h : b < m) (e : 2 * n * m = 256) : b * (2 * n) + 2 * n ≤ 256 := by
  have h1 : (b + 1) * (2 * n) ≤ m * (2 * n) := Nat.mul_le_mul_right _ h
  rw [Nat.add_mul, Nat.one_mul, Nat.mul_comm m, e] at h1
  exact h1
theorem mul_end {m n : Nat} (e : 2 * n * m = 256) : m * (2 * n) = 256 := by rw [Nat.mul_comm]; exact e

set_option maxHeartbeats 4000000 in
set_option maxRecDepth 100000 in
theorem levelF_any (cs : Array Value) (f : Nat → F) (n m k0 kb zb : Nat) (w : World) (hP : IsP cs (up f)) (hn : 0 < n) (e256 : 2 * n * m = 256) (hk0 : k0 + m ≤ 255) (hcnt : w.rowIs kb 3 1 (one1 (k0))) (hpows : w.rowIs zb 22 256 (ints zvi)) (hne : zb ≠ kb) :
    Calls Try.prog 40 #[.agg cs, .int .i64 n, .func (.func 39) #[] #[.pointer (some ⟨kb, 0, none⟩), .pointer (some ⟨zb, 0, none⟩)], .func (.func 41) #[] #[]] w fun e w' =>
      ∃ ds, e = .returned (.agg ds) ∧ IsP ds (up (lev ch0 (fun b => zv (k0 + b + 1)) n f)) ∧ w'.rowIs kb 3 1 (one1 (k0 + m)) ∧ w.grownBy w' (some kb) := by
  have hn1 : 2 * n ≤ 256 := by
    rcases Nat.eq_zero_or_pos m with h | h
    · rw [h] at e256; simp at e256
    · calc 2 * n = 2 * n * 1 := by omega
        _ ≤ 2 * n * m := Nat.mul_le_mul_left _ h
        _ = 256 := e256
  obtain ⟨L, hL⟩ : ∃ L, lev ch0 (fun b => zv (k0 + b + 1)) n f = L := ⟨_, rfl⟩
  rw [hL]
  have HL := Lib.hid hL; clear hL
  have HP := Lib.hid hP; have HE := Lib.hid e256; have HC := Lib.hid hcnt; have HZV := Lib.hid hpows; have HNE := Lib.hid hne; have HK0 := Lib.hid hk0; clear hP e256 hcnt hpows hne hk0
  have hkb := HC.out.lt; have hzb := HZV.out.lt
  obtain ⟨Z, hz, hZ⟩ := zero_poly
  have HZ := Lib.hid hZ; clear hZ
  go_enter Try.func40, Try.ntmps40
  go_wp2
  clear hz
  go_loopw [9] (fun i W => ∃ b s : Nat, b ≤ m ∧ Hid (s = b * (2 * n)) ∧ s ≤ 256 ∧ i = .int .i64 s ∧ Hid (LV w W Z L f n s 0 kb zb (k0 + b))) (fun i _ => 256 - (intOf i).toNat)
  case atStart =>
    have e : (w.alloc (.cells cs 23)).heap.size = w.heap.size + 1 := by simp
    have r2 := heap_alloc_last (w.alloc (.cells cs 23)) (.cells Z 23)
    rw [e] at r2
    have r1 := (row_of (heap_alloc_last w (.cells cs 23)) HP.out).alloc (.cells Z 23)
    rw [← partl_zero L f n] at r1
    exact ⟨0, 0, Nat.zero_le _, Lib.hid (by omega), by omega, rfl, Lib.hid ⟨r1, r2, (HC.out.alloc _).alloc _, (HZV.out.alloc _).alloc _, only_alloc (only_alloc (World.grownBy.refl _ _) _) _⟩⟩
  case round =>
    obtain ⟨b, s, hb, HS, hs256, rfl, HV⟩ := hrel
    by_cases hlt : b < m
    · have hroom : s + 2 * n ≤ 256 := by rw [HS.out]; exact mul_room hlt HE.out
      have hds : decide ((s : Int) < 256) = true := decide_eq_true (by omega)
      go_wp2_with fail
      refine (nextF_any kb zb (k0 + b) _ (by have := HK0.out; omega) HV.out.cnt HV.out.pows HNE.out).mono ?_
      rintro e' w1 ⟨rfl, hw1⟩
      have HV1 : Hid (LV w w1 Z L f n s 0 kb zb (k0 + b + 1)) := Lib.hid (hw1 ▸ HV.out.tick hkb HNE.out _)
      obtain ⟨zz, hzz⟩ : ∃ zz, (fun b => zv (k0 + b + 1)) b = zz := ⟨_, rfl⟩
      have HZZ := Lib.hid hzz
      dsimp only at hzz
      rw [hzz]
      clear hzz hw1 HV
      go_wp2
      go_loopw [11] (fun j W => ∃ t j' : Nat, t ≤ n ∧ Hid (j' = s + t) ∧ j = .int .i64 j' ∧ Hid (LV w W Z L f n s t kb zb (k0 + b + 1))) (fun j _ => 512 - (intOf j).toNat)
      case atStart => exact ⟨0, s, Nat.zero_le _, Lib.hid (by omega), rfl, HV1⟩
      case round =>
        clear HV1
        obtain ⟨t, j', ht, HJ, rfl, HV2⟩ := hrel
        by_cases hltt : t < n
        · have hj := HJ.out
          have hj1 : j' < s + n := by omega
          have hj2 : j' + n < 256 := by omega
          have hdj : decide ((j' : Int) < (s : Int) + (n : Int)) = true := decide_eq_true (by omega)
          obtain ⟨p1, p2⟩ := partl_low L f n s t hltt
          rw [← hj] at p1 p2
          have c1 := HV2.out.row.cell (i := j') (by omega)
          have c2 := HV2.out.row.cell (i := j' + n) (by omega)
          unfold ints at c1 c2
          rw [p1] at c1; rw [p2] at c2
          have d1 := HV2.out.row.frozen j'
          have d2 := HV2.out.row.frozen (j' + n)
          have q0 : (0 : Int) ≤ (j' : Int) := by omega
          have q0' : (j' : Int) < 256 := by omega
          have q1 : IntKind.i64.wrap ((j' : Int) + (n : Int)) = (j' : Int) + (n : Int) := IntWalk.i64_in _ (by omega)
          have q2 : ((j' : Int) + (n : Int)).toNat = j' + n := by omega
          have q3 : (0 : Int) ≤ (j' : Int) + (n : Int) := by omega
          have q4 : (j' : Int) + (n : Int) < 256 := by omega
          have HX : Hid (L j' = (ch0 zz (f j') (f (j' + n))).1) := Lib.hid (by
            rw [hj, HS.out, ← HL.out, lev_lo _ _ _ _ b t hltt]
            rw [show zv (k0 + b + 1) = zz from HZZ.out])
          have HY : Hid (L (j' + n) = (ch0 zz (f j') (f (j' + n))).2) := Lib.hid (by
            rw [hj, HS.out, show b * (2 * n) + t + n = b * (2 * n) + n + t by omega, ← HL.out, lev_hi _ _ _ _ b t hltt]
            rw [show zv (k0 + b + 1) = zz from HZZ.out])
          clear hj
          obtain ⟨lo, hlo⟩ : ∃ lo, f j' = lo := ⟨_, rfl⟩
          obtain ⟨hi, hhi⟩ : ∃ hi, f (j' + n) = hi := ⟨_, rfl⟩
          rw [hlo] at c1; rw [hhi] at c2
          rw [hlo, hhi] at HX HY
          clear hlo hhi p1 p2
          go_wp2
          refine region_calm ?_
          refine wp_region_any (by kernel_rfl) ?_
          change wpAny _ _ _ _ _ _ _ (World.drew _)
          refine wpAny_take (i := 0) (v := ?v0n1) rfl (by kernel_rfl) (by kernel_rfl) (by kernel_rfl) (fun _ _ _ h => h) (Or.inl ⟨by rfl, ?y0n1⟩) ?r0n1
          case y0n1 => (intro w'; go_simp; try with_reducible rfl)
          simp only [List.getElem_toArray, List.getElem_cons_succ, List.getElem_cons_zero, Act.put, List.setIfInBounds_toArray, List.set_cons_zero, List.set_cons_succ]
          refine wpAny_take (i := 1) (v := ?v1n2) rfl (by kernel_rfl) (by kernel_rfl) (by kernel_rfl) (fun _ _ _ h => h) (Or.inl ⟨by rfl, ?y1n2⟩) ?r1n2
          case y1n2 => (intro w'; go_simp; try with_reducible rfl)
          simp only [List.getElem_toArray, List.getElem_cons_succ, List.getElem_cons_zero, Act.put, List.setIfInBounds_toArray, List.set_cons_zero, List.set_cons_succ]
          refine wpAny_take (i := 2) (v := ?v2n3) rfl (by kernel_rfl) (by kernel_rfl) (by kernel_rfl) (fun _ _ _ h => h) (Or.inl ⟨by rfl, ?y2n3⟩) ?r2n3
          case y2n3 => (intro w'; go_simp; try with_reducible rfl)
          simp only [List.getElem_toArray, List.getElem_cons_succ, List.getElem_cons_zero, Act.put, List.setIfInBounds_toArray, List.set_cons_zero, List.set_cons_succ]
          refine wpAny_take (i := 3) (v := ?v3n4) rfl (by kernel_rfl) (by kernel_rfl) (by kernel_rfl) (fun _ _ _ h => h) (Or.inl ⟨by rfl, ?y3n4⟩) ?r3n4
          case y3n4 => (intro w'; go_simp; try with_reducible rfl)
          simp only [List.getElem_toArray, List.getElem_cons_succ, List.getElem_cons_zero, Act.put, List.setIfInBounds_toArray, List.set_cons_zero, List.set_cons_succ]
          refine wpAny_take (i := 4) (v := ?v4n5) rfl (by kernel_rfl) (by kernel_rfl) (by kernel_rfl) (fun _ _ _ h => h) (Or.inl ⟨by rfl, ?y4n5⟩) ?r4n5
          case y4n5 => (intro w'; go_simp; try with_reducible rfl)
          simp only [List.getElem_toArray, List.getElem_cons_succ, List.getElem_cons_zero, Act.put, List.setIfInBounds_toArray, List.set_cons_zero, List.set_cons_succ]
          refine wpAny_take (i := 5) (v := ?v5n6) rfl (by kernel_rfl) (by kernel_rfl) (by kernel_rfl) (fun _ _ _ h => h) (Or.inl ⟨by rfl, ?y5n6⟩) ?r5n6
          case y5n6 => (intro w'; go_simp; try with_reducible rfl)
          simp only [List.getElem_toArray, List.getElem_cons_succ, List.getElem_cons_zero, Act.put, List.setIfInBounds_toArray, List.set_cons_zero, List.set_cons_succ]
          refine wpAny_take (i := 6) (v := ?v6n7) rfl (by kernel_rfl) (by kernel_rfl) (by kernel_rfl) (fun _ _ _ h => h) (Or.inl ⟨by rfl, ?y6n7⟩) ?r6n7
          case y6n7 => (intro w'; go_simp; try with_reducible rfl)
          simp only [List.getElem_toArray, List.getElem_cons_succ, List.getElem_cons_zero, Act.put, List.setIfInBounds_toArray, List.set_cons_zero, List.set_cons_succ]
          refine wpAny_take (i := 7) (v := ?v7n8) rfl (by kernel_rfl) (by kernel_rfl) (by kernel_rfl) (fun _ _ _ h => h) (Or.inl ⟨by rfl, ?y7n8⟩) ?r7n8
          case y7n8 => (intro w'; go_simp; try with_reducible rfl)
          simp only [List.getElem_toArray, List.getElem_cons_succ, List.getElem_cons_zero, Act.put, List.setIfInBounds_toArray, List.set_cons_zero, List.set_cons_succ]
          refine wpAny_take (i := 9) (v := ?v9n9) rfl (by kernel_rfl) (by kernel_rfl) (by kernel_rfl) (fun _ _ _ h => h) (Or.inl ⟨by rfl, ?y9n9⟩) ?r9n9
          case y9n9 => (intro w'; go_simp; try with_reducible rfl)
          simp only [List.getElem_toArray, List.getElem_cons_succ, List.getElem_cons_zero, Act.put, List.setIfInBounds_toArray, List.set_cons_zero, List.set_cons_succ]
          refine wpAny_take (i := 10) (v := ?v10n10) rfl (by kernel_rfl) (by kernel_rfl) (by kernel_rfl) (fun _ _ _ h => h) (Or.inl ⟨by rfl, ?y10n10⟩) ?r10n10
          case y10n10 => (intro w'; go_simp; try with_reducible rfl)
          simp only [List.getElem_toArray, List.getElem_cons_succ, List.getElem_cons_zero, Act.put, List.setIfInBounds_toArray, List.set_cons_zero, List.set_cons_succ]
          refine wpAny_take (i := 11) (v := ?v11n11) rfl (by kernel_rfl) (by kernel_rfl) (by kernel_rfl) (fun _ _ _ h => h) (Or.inl ⟨by rfl, ?y11n11⟩) ?r11n11
          case y11n11 => (intro w'; go_simp; try with_reducible rfl)
          simp only [List.getElem_toArray, List.getElem_cons_succ, List.getElem_cons_zero, Act.put, List.setIfInBounds_toArray, List.set_cons_zero, List.set_cons_succ]
          refine wpAny_take (i := 12) (v := ?v12n12) rfl (by kernel_rfl) (by kernel_rfl) (by kernel_rfl) (fun _ _ _ h => h) (Or.inl ⟨by rfl, ?y12n12⟩) ?r12n12
          case y12n12 => (intro w'; go_simp; try with_reducible rfl)
          simp only [List.getElem_toArray, List.getElem_cons_succ, List.getElem_cons_zero, Act.put, List.setIfInBounds_toArray, List.set_cons_zero, List.set_cons_succ]
          refine have T1 : wpAny ?tP1 ?tm1 ?to1 ?tQ1 8 ?tl1 ?ta1 wr.drew := ?t1; ?main1
          case main1 =>
            refine wpAny_ready (rs := [8, 13]) (by kernel_rfl) (by simp) ?_
            refine AllReady.cons rfl (fun K hK => ?_) (AllReady.cons rfl (fun K hK => ?_) AllReady.nil)
            · simp only [List.getElem_toArray, List.getElem_cons_succ, List.getElem_cons_zero]
              go_simp
              refine hK _ _ ?_
              clear hK K
              try simp only [List.getElem_toArray, List.getElem_cons_succ, List.getElem_cons_zero, Act.put, List.setIfInBounds_toArray, List.set_cons_zero, List.set_cons_succ]
              refine wpAny_ready (rs := [13]) (by kernel_rfl) (by simp) ?_
              refine AllReady.cons rfl (fun K hK => ?_) AllReady.nil
              simp only [List.getElem_toArray, List.getElem_cons_succ, List.getElem_cons_zero]
              go_simp
              refine hK _ _ ?_
              clear hK K
              try simp only [List.getElem_toArray, List.getElem_cons_succ, List.getElem_cons_zero, Act.put, List.setIfInBounds_toArray, List.set_cons_zero, List.set_cons_succ]
              exact T1
            · simp only [List.getElem_toArray, List.getElem_cons_succ, List.getElem_cons_zero]
              go_simp
              refine hK _ _ ?_
              clear hK K
              try simp only [List.getElem_toArray, List.getElem_cons_succ, List.getElem_cons_zero, Act.put, List.setIfInBounds_toArray, List.set_cons_zero, List.set_cons_succ]
              refine wpAny_ready (rs := [8]) (by kernel_rfl) (by simp) ?_
              refine AllReady.cons rfl (fun K hK => ?_) AllReady.nil
              simp only [List.getElem_toArray, List.getElem_cons_succ, List.getElem_cons_zero]
              go_simp
              refine hK _ _ ?_
              clear hK K
              try simp only [List.getElem_toArray, List.getElem_cons_succ, List.getElem_cons_zero, Act.put, List.setIfInBounds_toArray, List.set_cons_zero, List.set_cons_succ]
              exact T1
          case t1 =>
            refine wpAny_ready (rs := [14]) (by kernel_rfl) (by simp) ?_
            refine AllReady.cons rfl (fun K hK => ?_) AllReady.nil
            simp only [List.getElem_toArray, List.getElem_cons_succ, List.getElem_cons_zero]
            go_simp
            refine (spread_any zz lo hi _).mono ?_
            rintro e' w' ⟨rfl, rfl⟩
            refine hK _ _ ?_
            clear hK K
            try simp only [List.getElem_toArray, List.getElem_cons_succ, List.getElem_cons_zero, Act.put, List.setIfInBounds_toArray, List.set_cons_zero, List.set_cons_succ]
            refine wpAny_take (i := 15) (v := ?v15n13) rfl (by kernel_rfl) (by kernel_rfl) (by kernel_rfl) (fun _ _ _ h => h) (Or.inl ⟨by rfl, ?y15n13⟩) ?r15n13
            case y15n13 => (intro w'; go_simp; try with_reducible rfl)
            simp only [List.getElem_toArray, List.getElem_cons_succ, List.getElem_cons_zero, Act.put, List.setIfInBounds_toArray, List.set_cons_zero, List.set_cons_succ]
            refine wpAny_take (i := 16) (v := ?v16n14) rfl (by kernel_rfl) (by kernel_rfl) (by kernel_rfl) (fun _ _ _ h => h) (Or.inl ⟨by rfl, ?y16n14⟩) ?r16n14
            case y16n14 => (intro w'; go_simp; try with_reducible rfl)
            simp only [List.getElem_toArray, List.getElem_cons_succ, List.getElem_cons_zero, Act.put, List.setIfInBounds_toArray, List.set_cons_zero, List.set_cons_succ]
            refine wpAny_take (i := 17) (v := ?v17n15) rfl (by kernel_rfl) (by kernel_rfl) (by kernel_rfl) (fun _ _ _ h => h) (Or.inl ⟨by rfl, ?y17n15⟩) ?r17n15
            case y17n15 => (intro w'; go_simp; try with_reducible rfl)
            simp only [List.getElem_toArray, List.getElem_cons_succ, List.getElem_cons_zero, Act.put, List.setIfInBounds_toArray, List.set_cons_zero, List.set_cons_succ]
            refine wpAny_take (i := 18) (v := ?v18n16) rfl (by kernel_rfl) (by kernel_rfl) (by kernel_rfl) (fun _ _ _ h => h) (Or.inl ⟨by rfl, ?y18n16⟩) ?r18n16
            case y18n16 => (intro w'; go_simp; try with_reducible rfl)
            simp only [List.getElem_toArray, List.getElem_cons_succ, List.getElem_cons_zero, Act.put, List.setIfInBounds_toArray, List.set_cons_zero, List.set_cons_succ]
            refine wpAny_ready (rs := [19]) (by kernel_rfl) (by simp) ?_
            refine AllReady.cons rfl (fun K hK => ?_) AllReady.nil
            simp only [List.getElem_toArray, List.getElem_cons_succ, List.getElem_cons_zero]
            go_simp
            refine hK _ _ ?_
            clear hK K
            try simp only [List.getElem_toArray, List.getElem_cons_succ, List.getElem_cons_zero, Act.put, List.setIfInBounds_toArray, List.set_cons_zero, List.set_cons_succ]
            refine wpAny_take (i := 20) (v := ?v20n17) rfl (by kernel_rfl) (by kernel_rfl) (by kernel_rfl) (fun _ _ _ h => h) (Or.inl ⟨by rfl, ?y20n17⟩) ?r20n17
            case y20n17 => (intro w'; go_simp; try with_reducible rfl)
            simp only [List.getElem_toArray, List.getElem_cons_succ, List.getElem_cons_zero, Act.put, List.setIfInBounds_toArray, List.set_cons_zero, List.set_cons_succ]
            refine wpAny_ready (rs := [21]) (by kernel_rfl) (by simp) ?_
            refine AllReady.cons rfl (fun K hK => ?_) AllReady.nil
            simp only [List.getElem_toArray, List.getElem_cons_succ, List.getElem_cons_zero]
            go_simp
            refine hK _ _ ?_
            clear hK K
            try simp only [List.getElem_toArray, List.getElem_cons_succ, List.getElem_cons_zero, Act.put, List.setIfInBounds_toArray, List.set_cons_zero, List.set_cons_succ]
            refine wpAny_done (by kernel_rfl) ?_ _
            change Exit.inBlock 3 (Exit.then _ _) Exit.normal _ _
            go_wp2
            go_roundw
            case rel =>
              exact ⟨t + 1, j' + 1, by omega, Lib.hid (by have := HJ.out; omega), by go_num, Lib.hid (by have := HV2.out.step hltt hkb hzb (x := (lo + zz * hi)) (y := (lo - zz * hi)) (by rw [← HJ.out, HX.out]; rfl) (by rw [← HJ.out, HY.out]; rfl); rw [← HJ.out] at this; exact this.drew)⟩
            case measure => simp [intOf]; omega
        · obtain rfl : t = n := by omega
          have hj := HJ.out
          have hdj : decide ((j' : Int) < (s : Int) + (t : Int)) = false := decide_eq_false (by omega)
          have HJ' := Lib.hid hj
          clear hj
          go_wp2
          go_roundw
          case rel => exact ⟨b + 1, s + 2 * t, by omega, Lib.hid (by rw [Nat.add_mul, Nat.one_mul, ← HS.out]), by omega, by go_num, Lib.hid (by have := HV2.out; rw [show (k0 + b + 1) = (k0 + (b + 1)) by omega] at this; exact ⟨partl_next L f t s ▸ this.row, this.res, this.cnt, this.pows, this.only⟩)⟩
          case measure => simp [intOf]; omega
    · obtain rfl : b = m := by omega
      have e256 : s = 256 := by rw [HS.out]; exact mul_end HE.out
      subst e256
      obtain ⟨ds, hds, hD⟩ := of_row (partl_all HV.out.row)
      have hi := poly_sized hD
      have hzm : Z.size = ds.size := by rw [HZ.out.1, hD.1]
      have H1 := Lib.hid hds; have H2 := Lib.hid hD; have H3 := Lib.hid hi; have H4 := Lib.hid hzm; clear hds hD hi hzm
      go_wp2_with (first | (refine wpList_load_row rfl 23 (.tmp 4) rfl w.heap.size rfl 23 ds (0, 0) _ H1.out Try.underlying23 rfl H3.out ?_) | (refine wpList_store_row rfl 23 (.tmp 8) (.tmp 48) rfl (w.heap.size + 1) ds rfl rfl 23 Z HV.out.res H3.out H4.out H2.out.cells ?_))
      refine bodyPost_ret (v := .agg ds) (results_cell_row (p := 8) (ty := 23) (by kernel_rfl) _ _ (w.heap.size + 1) 23 ds (0, 0) _ rfl (setRow_heap _ _ _ _ _ _ HV.out.res) Try.underlying23 rfl H3.out) rfl ⟨ds, rfl, H2.out, ?_, only_setRow HV.out.only (by omega) _⟩
      have := HV.out.cnt
      rw [show k0 + b = k0 + b by omega] at this
      exact this.of_block (setRow_other _ _ _ _ (by omega))

set_option maxHeartbeats 4000000 in
set_option maxRecDepth 100000 in
theorem levelB_any (cs : Array Value) (f : Nat → F) (n m k0 kb zb : Nat) (w : World) (hP : IsP cs (up f)) (hn : 0 < n) (e256 : 2 * n * m = 256) (hk0 : k0 + m ≤ 256) (hcnt : w.rowIs kb 3 1 (one1 (k0 + m))) (hpows : w.rowIs zb 22 256 (ints zvi)) (hne : zb ≠ kb) :
    Calls Try.prog 40 #[.agg cs, .int .i64 n, .func (.func 43) #[] #[.pointer (some ⟨kb, 0, none⟩), .pointer (some ⟨zb, 0, none⟩)], .func (.func 44) #[] #[]] w fun e w' =>
      ∃ ds, e = .returned (.agg ds) ∧ IsP ds (up (lev ch1 (fun b => - zv (k0 + m - 1 - b)) n f)) ∧ w'.rowIs kb 3 1 (one1 (k0)) ∧ w.grownBy w' (some kb) := by
  have hn1 : 2 * n ≤ 256 := by
    rcases Nat.eq_zero_or_pos m with h | h
    · rw [h] at e256; simp at e256
    · calc 2 * n = 2 * n * 1 := by omega
        _ ≤ 2 * n * m := Nat.mul_le_mul_left _ h
        _ = 256 := e256
  obtain ⟨L, hL⟩ : ∃ L, lev ch1 (fun b => - zv (k0 + m - 1 - b)) n f = L := ⟨_, rfl⟩
  rw [hL]
  have HL := Lib.hid hL; clear hL
  have HP := Lib.hid hP; have HE := Lib.hid e256; have HC := Lib.hid hcnt; have HZV := Lib.hid hpows; have HNE := Lib.hid hne; have HK0 := Lib.hid hk0; clear hP e256 hcnt hpows hne hk0
  have hkb := HC.out.lt; have hzb := HZV.out.lt
  obtain ⟨Z, hz, hZ⟩ := zero_poly
  have HZ := Lib.hid hZ; clear hZ
  go_enter Try.func40, Try.ntmps40
  go_wp2
  clear hz
  go_loopw [9] (fun i W => ∃ b s : Nat, b ≤ m ∧ Hid (s = b * (2 * n)) ∧ s ≤ 256 ∧ i = .int .i64 s ∧ Hid (LV w W Z L f n s 0 kb zb (k0 + m - b))) (fun i _ => 256 - (intOf i).toNat)
  case atStart =>
    have e : (w.alloc (.cells cs 23)).heap.size = w.heap.size + 1 := by simp
    have r2 := heap_alloc_last (w.alloc (.cells cs 23)) (.cells Z 23)
    rw [e] at r2
    have r1 := (row_of (heap_alloc_last w (.cells cs 23)) HP.out).alloc (.cells Z 23)
    rw [← partl_zero L f n] at r1
    exact ⟨0, 0, Nat.zero_le _, Lib.hid (by omega), by omega, rfl, Lib.hid ⟨r1, r2, (HC.out.alloc _).alloc _, (HZV.out.alloc _).alloc _, only_alloc (only_alloc (World.grownBy.refl _ _) _) _⟩⟩
  case round =>
    obtain ⟨b, s, hb, HS, hs256, rfl, HV⟩ := hrel
    by_cases hlt : b < m
    · have hroom : s + 2 * n ≤ 256 := by rw [HS.out]; exact mul_room hlt HE.out
      have hds : decide ((s : Int) < 256) = true := decide_eq_true (by omega)
      go_wp2_with fail
      refine (nextB_any kb zb (k0 + m - 1 - b) _ (by have := HK0.out; omega) (by have := HV.out.cnt; rwa [show k0 + m - b = k0 + m - 1 - b + 1 by omega] at this) HV.out.pows HNE.out).mono ?_
      rintro e' w1 ⟨rfl, hw1⟩
      have HV1 : Hid (LV w w1 Z L f n s 0 kb zb (k0 + m - 1 - b)) := Lib.hid (hw1 ▸ HV.out.tick hkb HNE.out _)
      obtain ⟨zz, hzz⟩ : ∃ zz, - zv (k0 + m - 1 - b) = zz := ⟨_, rfl⟩
      have HZZ := Lib.hid hzz
      have HNR := near_neg (zv (k0 + m - 1 - b))
      rw [hzz] at HNR
      obtain ⟨zi, hzi⟩ : ∃ zi, -(nv (zv (k0 + m - 1 - b))) = zi := ⟨_, rfl⟩
      rw [hzi] at HNR
      rw [hzi]
      have HNR := Lib.hid HNR
      clear hzz hzi hw1 HV
      go_wp2
      go_loopw [11] (fun j W => ∃ t j' : Nat, t ≤ n ∧ Hid (j' = s + t) ∧ j = .int .i64 j' ∧ Hid (LV w W Z L f n s t kb zb (k0 + m - 1 - b))) (fun j _ => 512 - (intOf j).toNat)
      case atStart => exact ⟨0, s, Nat.zero_le _, Lib.hid (by omega), rfl, HV1⟩
      case round =>
        clear HV1
        obtain ⟨t, j', ht, HJ, rfl, HV2⟩ := hrel
        by_cases hltt : t < n
        · have hj := HJ.out
          have hj1 : j' < s + n := by omega
          have hj2 : j' + n < 256 := by omega
          have hdj : decide ((j' : Int) < (s : Int) + (n : Int)) = true := decide_eq_true (by omega)
          obtain ⟨p1, p2⟩ := partl_low L f n s t hltt
          rw [← hj] at p1 p2
          have c1 := HV2.out.row.cell (i := j') (by omega)
          have c2 := HV2.out.row.cell (i := j' + n) (by omega)
          unfold ints at c1 c2
          rw [p1] at c1; rw [p2] at c2
          have d1 := HV2.out.row.frozen j'
          have d2 := HV2.out.row.frozen (j' + n)
          have q0 : (0 : Int) ≤ (j' : Int) := by omega
          have q0' : (j' : Int) < 256 := by omega
          have q1 : IntKind.i64.wrap ((j' : Int) + (n : Int)) = (j' : Int) + (n : Int) := IntWalk.i64_in _ (by omega)
          have q2 : ((j' : Int) + (n : Int)).toNat = j' + n := by omega
          have q3 : (0 : Int) ≤ (j' : Int) + (n : Int) := by omega
          have q4 : (j' : Int) + (n : Int) < 256 := by omega
          have HX : Hid (L j' = (ch1 zz (f j') (f (j' + n))).1) := Lib.hid (by
            rw [hj, HS.out, ← HL.out, lev_lo _ _ _ _ b t hltt]
            rw [show - zv (k0 + m - 1 - b) = zz from HZZ.out])
          have HY : Hid (L (j' + n) = (ch1 zz (f j') (f (j' + n))).2) := Lib.hid (by
            rw [hj, HS.out, show b * (2 * n) + t + n = b * (2 * n) + n + t by omega, ← HL.out, lev_hi _ _ _ _ b t hltt]
            rw [show - zv (k0 + m - 1 - b) = zz from HZZ.out])
          clear hj
          obtain ⟨lo, hlo⟩ : ∃ lo, f j' = lo := ⟨_, rfl⟩
          obtain ⟨hi, hhi⟩ : ∃ hi, f (j' + n) = hi := ⟨_, rfl⟩
          rw [hlo] at c1; rw [hhi] at c2
          rw [hlo, hhi] at HX HY
          clear hlo hhi p1 p2
          go_wp2
          refine region_calm ?_
          refine wp_region_any (by kernel_rfl) ?_
          change wpAny _ _ _ _ _ _ _ (World.drew _)
          refine wpAny_take (i := 0) (v := ?v0n18) rfl (by kernel_rfl) (by kernel_rfl) (by kernel_rfl) (fun _ _ _ h => h) (Or.inl ⟨by rfl, ?y0n18⟩) ?r0n18
          case y0n18 => (intro w'; go_simp; try with_reducible rfl)
          simp only [List.getElem_toArray, List.getElem_cons_succ, List.getElem_cons_zero, Act.put, List.setIfInBounds_toArray, List.set_cons_zero, List.set_cons_succ]
          refine wpAny_take (i := 1) (v := ?v1n19) rfl (by kernel_rfl) (by kernel_rfl) (by kernel_rfl) (fun _ _ _ h => h) (Or.inl ⟨by rfl, ?y1n19⟩) ?r1n19
          case y1n19 => (intro w'; go_simp; try with_reducible rfl)
          simp only [List.getElem_toArray, List.getElem_cons_succ, List.getElem_cons_zero, Act.put, List.setIfInBounds_toArray, List.set_cons_zero, List.set_cons_succ]
          refine wpAny_take (i := 2) (v := ?v2n20) rfl (by kernel_rfl) (by kernel_rfl) (by kernel_rfl) (fun _ _ _ h => h) (Or.inl ⟨by rfl, ?y2n20⟩) ?r2n20
          case y2n20 => (intro w'; go_simp; try with_reducible rfl)
          simp only [List.getElem_toArray, List.getElem_cons_succ, List.getElem_cons_zero, Act.put, List.setIfInBounds_toArray, List.set_cons_zero, List.set_cons_succ]
          refine wpAny_take (i := 3) (v := ?v3n21) rfl (by kernel_rfl) (by kernel_rfl) (by kernel_rfl) (fun _ _ _ h => h) (Or.inl ⟨by rfl, ?y3n21⟩) ?r3n21
          case y3n21 => (intro w'; go_simp; try with_reducible rfl)
          simp only [List.getElem_toArray, List.getElem_cons_succ, List.getElem_cons_zero, Act.put, List.setIfInBounds_toArray, List.set_cons_zero, List.set_cons_succ]
          refine wpAny_take (i := 4) (v := ?v4n22) rfl (by kernel_rfl) (by kernel_rfl) (by kernel_rfl) (fun _ _ _ h => h) (Or.inl ⟨by rfl, ?y4n22⟩) ?r4n22
          case y4n22 => (intro w'; go_simp; try with_reducible rfl)
          simp only [List.getElem_toArray, List.getElem_cons_succ, List.getElem_cons_zero, Act.put, List.setIfInBounds_toArray, List.set_cons_zero, List.set_cons_succ]
          refine wpAny_take (i := 5) (v := ?v5n23) rfl (by kernel_rfl) (by kernel_rfl) (by kernel_rfl) (fun _ _ _ h => h) (Or.inl ⟨by rfl, ?y5n23⟩) ?r5n23
          case y5n23 => (intro w'; go_simp; try with_reducible rfl)
          simp only [List.getElem_toArray, List.getElem_cons_succ, List.getElem_cons_zero, Act.put, List.setIfInBounds_toArray, List.set_cons_zero, List.set_cons_succ]
          refine wpAny_take (i := 6) (v := ?v6n24) rfl (by kernel_rfl) (by kernel_rfl) (by kernel_rfl) (fun _ _ _ h => h) (Or.inl ⟨by rfl, ?y6n24⟩) ?r6n24
          case y6n24 => (intro w'; go_simp; try with_reducible rfl)
          simp only [List.getElem_toArray, List.getElem_cons_succ, List.getElem_cons_zero, Act.put, List.setIfInBounds_toArray, List.set_cons_zero, List.set_cons_succ]
          refine wpAny_take (i := 7) (v := ?v7n25) rfl (by kernel_rfl) (by kernel_rfl) (by kernel_rfl) (fun _ _ _ h => h) (Or.inl ⟨by rfl, ?y7n25⟩) ?r7n25
          case y7n25 => (intro w'; go_simp; try with_reducible rfl)
          simp only [List.getElem_toArray, List.getElem_cons_succ, List.getElem_cons_zero, Act.put, List.setIfInBounds_toArray, List.set_cons_zero, List.set_cons_succ]
          refine wpAny_take (i := 9) (v := ?v9n26) rfl (by kernel_rfl) (by kernel_rfl) (by kernel_rfl) (fun _ _ _ h => h) (Or.inl ⟨by rfl, ?y9n26⟩) ?r9n26
          case y9n26 => (intro w'; go_simp; try with_reducible rfl)
          simp only [List.getElem_toArray, List.getElem_cons_succ, List.getElem_cons_zero, Act.put, List.setIfInBounds_toArray, List.set_cons_zero, List.set_cons_succ]
          refine wpAny_take (i := 10) (v := ?v10n27) rfl (by kernel_rfl) (by kernel_rfl) (by kernel_rfl) (fun _ _ _ h => h) (Or.inl ⟨by rfl, ?y10n27⟩) ?r10n27
          case y10n27 => (intro w'; go_simp; try with_reducible rfl)
          simp only [List.getElem_toArray, List.getElem_cons_succ, List.getElem_cons_zero, Act.put, List.setIfInBounds_toArray, List.set_cons_zero, List.set_cons_succ]
          refine wpAny_take (i := 11) (v := ?v11n28) rfl (by kernel_rfl) (by kernel_rfl) (by kernel_rfl) (fun _ _ _ h => h) (Or.inl ⟨by rfl, ?y11n28⟩) ?r11n28
          case y11n28 => (intro w'; go_simp; try with_reducible rfl)
          simp only [List.getElem_toArray, List.getElem_cons_succ, List.getElem_cons_zero, Act.put, List.setIfInBounds_toArray, List.set_cons_zero, List.set_cons_succ]
          refine wpAny_take (i := 12) (v := ?v12n29) rfl (by kernel_rfl) (by kernel_rfl) (by kernel_rfl) (fun _ _ _ h => h) (Or.inl ⟨by rfl, ?y12n29⟩) ?r12n29
          case y12n29 => (intro w'; go_simp; try with_reducible rfl)
          simp only [List.getElem_toArray, List.getElem_cons_succ, List.getElem_cons_zero, Act.put, List.setIfInBounds_toArray, List.set_cons_zero, List.set_cons_succ]
          refine have T1 : wpAny ?tP1 ?tm1 ?to1 ?tQ1 8 ?tl1 ?ta1 wr.drew := ?t1; ?main1
          case main1 =>
            refine wpAny_ready (rs := [8, 13]) (by kernel_rfl) (by simp) ?_
            refine AllReady.cons rfl (fun K hK => ?_) (AllReady.cons rfl (fun K hK => ?_) AllReady.nil)
            · simp only [List.getElem_toArray, List.getElem_cons_succ, List.getElem_cons_zero]
              go_simp
              refine hK _ _ ?_
              clear hK K
              try simp only [List.getElem_toArray, List.getElem_cons_succ, List.getElem_cons_zero, Act.put, List.setIfInBounds_toArray, List.set_cons_zero, List.set_cons_succ]
              refine wpAny_ready (rs := [13]) (by kernel_rfl) (by simp) ?_
              refine AllReady.cons rfl (fun K hK => ?_) AllReady.nil
              simp only [List.getElem_toArray, List.getElem_cons_succ, List.getElem_cons_zero]
              go_simp
              refine hK _ _ ?_
              clear hK K
              try simp only [List.getElem_toArray, List.getElem_cons_succ, List.getElem_cons_zero, Act.put, List.setIfInBounds_toArray, List.set_cons_zero, List.set_cons_succ]
              exact T1
            · simp only [List.getElem_toArray, List.getElem_cons_succ, List.getElem_cons_zero]
              go_simp
              refine hK _ _ ?_
              clear hK K
              try simp only [List.getElem_toArray, List.getElem_cons_succ, List.getElem_cons_zero, Act.put, List.setIfInBounds_toArray, List.set_cons_zero, List.set_cons_succ]
              refine wpAny_ready (rs := [8]) (by kernel_rfl) (by simp) ?_
              refine AllReady.cons rfl (fun K hK => ?_) AllReady.nil
              simp only [List.getElem_toArray, List.getElem_cons_succ, List.getElem_cons_zero]
              go_simp
              refine hK _ _ ?_
              clear hK K
              try simp only [List.getElem_toArray, List.getElem_cons_succ, List.getElem_cons_zero, Act.put, List.setIfInBounds_toArray, List.set_cons_zero, List.set_cons_succ]
              exact T1
          case t1 =>
            refine wpAny_ready (rs := [14]) (by kernel_rfl) (by simp) ?_
            refine AllReady.cons rfl (fun K hK => ?_) AllReady.nil
            simp only [List.getElem_toArray, List.getElem_cons_succ, List.getElem_cons_zero]
            go_simp
            refine (join_any zi zz lo hi _ HNR.out).mono ?_
            rintro e' w' ⟨rfl, rfl⟩
            refine hK _ _ ?_
            clear hK K
            try simp only [List.getElem_toArray, List.getElem_cons_succ, List.getElem_cons_zero, Act.put, List.setIfInBounds_toArray, List.set_cons_zero, List.set_cons_succ]
            refine wpAny_take (i := 15) (v := ?v15n30) rfl (by kernel_rfl) (by kernel_rfl) (by kernel_rfl) (fun _ _ _ h => h) (Or.inl ⟨by rfl, ?y15n30⟩) ?r15n30
            case y15n30 => (intro w'; go_simp; try with_reducible rfl)
            simp only [List.getElem_toArray, List.getElem_cons_succ, List.getElem_cons_zero, Act.put, List.setIfInBounds_toArray, List.set_cons_zero, List.set_cons_succ]
            refine wpAny_take (i := 16) (v := ?v16n31) rfl (by kernel_rfl) (by kernel_rfl) (by kernel_rfl) (fun _ _ _ h => h) (Or.inl ⟨by rfl, ?y16n31⟩) ?r16n31
            case y16n31 => (intro w'; go_simp; try with_reducible rfl)
            simp only [List.getElem_toArray, List.getElem_cons_succ, List.getElem_cons_zero, Act.put, List.setIfInBounds_toArray, List.set_cons_zero, List.set_cons_succ]
            refine wpAny_take (i := 17) (v := ?v17n32) rfl (by kernel_rfl) (by kernel_rfl) (by kernel_rfl) (fun _ _ _ h => h) (Or.inl ⟨by rfl, ?y17n32⟩) ?r17n32
            case y17n32 => (intro w'; go_simp; try with_reducible rfl)
            simp only [List.getElem_toArray, List.getElem_cons_succ, List.getElem_cons_zero, Act.put, List.setIfInBounds_toArray, List.set_cons_zero, List.set_cons_succ]
            refine wpAny_take (i := 18) (v := ?v18n33) rfl (by kernel_rfl) (by kernel_rfl) (by kernel_rfl) (fun _ _ _ h => h) (Or.inl ⟨by rfl, ?y18n33⟩) ?r18n33
            case y18n33 => (intro w'; go_simp; try with_reducible rfl)
            simp only [List.getElem_toArray, List.getElem_cons_succ, List.getElem_cons_zero, Act.put, List.setIfInBounds_toArray, List.set_cons_zero, List.set_cons_succ]
            refine wpAny_ready (rs := [19]) (by kernel_rfl) (by simp) ?_
            refine AllReady.cons rfl (fun K hK => ?_) AllReady.nil
            simp only [List.getElem_toArray, List.getElem_cons_succ, List.getElem_cons_zero]
            go_simp
            refine hK _ _ ?_
            clear hK K
            try simp only [List.getElem_toArray, List.getElem_cons_succ, List.getElem_cons_zero, Act.put, List.setIfInBounds_toArray, List.set_cons_zero, List.set_cons_succ]
            refine wpAny_take (i := 20) (v := ?v20n34) rfl (by kernel_rfl) (by kernel_rfl) (by kernel_rfl) (fun _ _ _ h => h) (Or.inl ⟨by rfl, ?y20n34⟩) ?r20n34
            case y20n34 => (intro w'; go_simp; try with_reducible rfl)
            simp only [List.getElem_toArray, List.getElem_cons_succ, List.getElem_cons_zero, Act.put, List.setIfInBounds_toArray, List.set_cons_zero, List.set_cons_succ]
            refine wpAny_ready (rs := [21]) (by kernel_rfl) (by simp) ?_
            refine AllReady.cons rfl (fun K hK => ?_) AllReady.nil
            simp only [List.getElem_toArray, List.getElem_cons_succ, List.getElem_cons_zero]
            go_simp
            refine hK _ _ ?_
            clear hK K
            try simp only [List.getElem_toArray, List.getElem_cons_succ, List.getElem_cons_zero, Act.put, List.setIfInBounds_toArray, List.set_cons_zero, List.set_cons_succ]
            refine wpAny_done (by kernel_rfl) ?_ _
            change Exit.inBlock 3 (Exit.then _ _) Exit.normal _ _
            go_wp2
            go_roundw
            case rel =>
              exact ⟨t + 1, j' + 1, by omega, Lib.hid (by have := HJ.out; omega), by go_num, Lib.hid (by have := HV2.out.step hltt hkb hzb (x := (lo + hi)) (y := (zz * (lo - hi))) (by rw [← HJ.out, HX.out]; rfl) (by rw [← HJ.out, HY.out]; rfl); rw [← HJ.out] at this; exact this.drew)⟩
            case measure => simp [intOf]; omega
        · obtain rfl : t = n := by omega
          have hj := HJ.out
          have hdj : decide ((j' : Int) < (s : Int) + (t : Int)) = false := decide_eq_false (by omega)
          have HJ' := Lib.hid hj
          clear hj
          go_wp2
          go_roundw
          case rel => exact ⟨b + 1, s + 2 * t, by omega, Lib.hid (by rw [Nat.add_mul, Nat.one_mul, ← HS.out]), by omega, by go_num, Lib.hid (by have := HV2.out; rw [show (k0 + m - 1 - b) = (k0 + m - (b + 1)) by omega] at this; exact ⟨partl_next L f t s ▸ this.row, this.res, this.cnt, this.pows, this.only⟩)⟩
          case measure => simp [intOf]; omega
    · obtain rfl : b = m := by omega
      have e256 : s = 256 := by rw [HS.out]; exact mul_end HE.out
      subst e256
      obtain ⟨ds, hds, hD⟩ := of_row (partl_all HV.out.row)
      have hi := poly_sized hD
      have hzm : Z.size = ds.size := by rw [HZ.out.1, hD.1]
      have H1 := Lib.hid hds; have H2 := Lib.hid hD; have H3 := Lib.hid hi; have H4 := Lib.hid hzm; clear hds hD hi hzm
      go_wp2_with (first | (refine wpList_load_row rfl 23 (.tmp 4) rfl w.heap.size rfl 23 ds (0, 0) _ H1.out Try.underlying23 rfl H3.out ?_) | (refine wpList_store_row rfl 23 (.tmp 8) (.tmp 48) rfl (w.heap.size + 1) ds rfl rfl 23 Z HV.out.res H3.out H4.out H2.out.cells ?_))
      refine bodyPost_ret (v := .agg ds) (results_cell_row (p := 8) (ty := 23) (by kernel_rfl) _ _ (w.heap.size + 1) 23 ds (0, 0) _ rfl (setRow_heap _ _ _ _ _ _ HV.out.res) Try.underlying23 rfl H3.out) rfl ⟨ds, rfl, H2.out, ?_, only_setRow HV.out.only (by omega) _⟩
      have := HV.out.cnt
      rw [show k0 + b - b = k0 by omega] at this
      exact this.of_block (setRow_other _ _ _ _ (by omega))

end Go.Proofs.Ytaihlmedeebimaa.Lg
