/- Plain mathematics of the sponge: taking and giving; nothing of the program. Walks: goOn, turnToGiving, Write. Walks: Write, New, Read. Walks: Read, atOnce, the four functions. Walks: atOnce and the four functions. -/
import Derived.Test.YtfhibjpkbbbfpaaDoorKecM1
namespace Go.Proofs.YtfhibjpkbbbfpaaDoor.Kec
set_option linter.all false

/-- behind one byte, taken or given -/
def stepAt (r : Nat) (s : Nat × List Nat) : Nat × List Nat := if s.1 + 1 = r then (0, change s.2) else (s.1 + 1, s.2)
def Good (r : Nat) (s : Nat × List Nat) : Prop := s.1 < r ∧ Ok s.2
theorem good_step {r : Nat} {s : Nat × List Nat} (h : Good r s) : Good r (stepAt r s) := by
  obtain ⟨h1, h2⟩ := h
  unfold stepAt
  split
  · exact ⟨by show 0 < r; omega, ok_change h2⟩
  · exact ⟨by show s.1 + 1 < r; omega, h2⟩
def takeOne (r : Nat) (s : Nat × List Nat) (v : Nat) : Nat × List Nat := stepAt r (s.1, lay s.2 s.1 v)
theorem good_takeOne {r : Nat} {s : Nat × List Nat} (h : Good r s) (hr : r ≤ 192) (v : Nat) : Good r (takeOne r s v) :=
  good_step ⟨h.1, ok_lay h.2 _ _ (by have := h.1; omega)⟩
def takeAll (r : Nat) (s : Nat × List Nat) (l : List Nat) : Nat × List Nat := l.foldl (takeOne r) s
theorem good_takeAll {r : Nat} (hr : r ≤ 192) : ∀ (l : List Nat) {s : Nat × List Nat}, Good r s → Good r (takeAll r s l)
  | [], _, h => h
  | v :: l, _, h => good_takeAll hr l (good_takeOne h hr v)
theorem takeAll_append (r : Nat) (s : Nat × List Nat) (a b : List Nat) : takeAll r s (a ++ b) = takeAll r (takeAll r s a) b := by
  unfold takeAll; rw [List.foldl_append]
theorem takeAll_snoc (r : Nat) (s : Nat × List Nat) (l : List Nat) (k : Nat) (h : k < l.length) : takeAll r s (l.take (k + 1)) = takeOne r (takeAll r s (l.take k)) (gt l k) := by
  have e : l.take (k + 1) = l.take k ++ [gt l k] := by
    rw [List.take_succ_eq_append_getElem h]
    simp [gt, List.getD_eq_getElem?_getD, h]
  rw [e, takeAll_append]; rfl
/-- it turns to giving -/
def turned (r e : Nat) (s : Nat × List Nat) : Nat × List Nat := (0, change (lay (lay s.2 s.1 e) (r - 1) 128))
theorem good_turned {r : Nat} (e : Nat) {s : Nat × List Nat} (h : Good r s) (h0 : 0 < r) (hr : r ≤ 192) : Good r (turned r e s) :=
  ⟨h0, ok_change (ok_lay (ok_lay h.2 _ _ (by have := h.1; omega)) _ _ (by omega))⟩
def after (r : Nat) (s : Nat × List Nat) : Nat → Nat × List Nat
  | 0 => s
  | n + 1 => stepAt r (after r s n)
theorem good_after {r : Nat} {s : Nat × List Nat} (h : Good r s) : ∀ n, Good r (after r s n)
  | 0 => h
  | n + 1 => good_step (good_after h n)
theorem after_add (r : Nat) (s : Nat × List Nat) (n : Nat) : ∀ m, after r (after r s n) m = after r s (n + m)
  | 0 => rfl
  | m + 1 => by
    show stepAt r (after r (after r s n) m) = stepAt r (after r s (n + m))
    rw [after_add r s n m]
def outAt (r : Nat) (s : Nat × List Nat) (i : Nat) : Nat := byteAt (after r s i).2 (after r s i).1
def outs (r : Nat) (s : Nat × List Nat) (n : Nat) : List Nat := (List.range n).map (outAt r s)
theorem outs_len (r : Nat) (s : Nat × List Nat) (n : Nat) : (outs r s n).length = n := by simp [outs]
theorem outAt_add (r : Nat) (s : Nat × List Nat) (n i : Nat) : outAt r (after r s n) i = outAt r s (n + i) := by
  unfold outAt; rw [after_add]
theorem outs_add (r : Nat) (s : Nat × List Nat) (n m : Nat) : outs r s n ++ outs r (after r s n) m = outs r s (n + m) := by
  unfold outs
  rw [List.range_add, List.map_append, List.map_map]
  congr 1
  apply List.map_congr_left
  intro i _
  exact outAt_add r s n i
theorem outs_take (r : Nat) (s : Nat × List Nat) (n m : Nat) : (outs r s (n + m)).take n = outs r s n := by
  rw [← outs_add, List.take_left' (outs_len r s n)]
theorem outs_lt (r : Nat) (s : Nat × List Nat) (n : Nat) : ∀ x ∈ outs r s n, x < 256 := by
  intro x hx
  unfold outs at hx
  obtain ⟨i, _, rfl⟩ := List.mem_map.1 hx
  exact byteAt_lt _ _
theorem gt_outs (r : Nat) (s : Nat × List Nat) (n i : Nat) (h : i < n) : gt (outs r s n) i = outAt r s i := by
  unfold gt outs
  rw [List.getD_eq_getElem?_getD, List.getElem?_map, List.getElem?_range h]; rfl
def start : Nat × List Nat := (0, zeros)
theorem good_start {r : Nat} (h : 0 < r) : Good r start := ⟨h, ok_zeros⟩
/-- a sponge that took all of l gives n bytes -/
def sponge (r e : Nat) (l : List Nat) (n : Nat) : List Nat := outs r (turned r e (takeAll r start l)) n

end Go.Proofs.YtfhibjpkbbbfpaaDoor.Kec

namespace Go.Proofs.YtfhibjpkbbbfpaaDoor.Kec
set_option linter.all false
open Go.RowKit

/-- the cells of a sponge but for its words -/
def spF (r e a : Nat) (gv : Bool) : Nat → Value
  | 0 => .int .i64 (r : Nat)
  | 1 => .int .u8 (e : Nat)
  | 27 => .int .i64 (a : Nat)
  | 28 => .bool gv
  | _ => undef
def Sp (w : World) (g r e : Nat) (gv : Bool) (s : Nat × List Nat) : Prop := St w g 78 29 (spF r e s.1 gv) 2 s.2
section
variable {w : World} {g r e : Nat} {gv : Bool} {s : Nat × List Nat}
theorem Sp.rate (h : Sp w g r e gv s) : w.cell? ⟨g, 0, none⟩ = some (.int .i64 (r : Nat)) := by
  rw [h.2.cell (by omega), put_out _ _ _ _ (by omega)]; rfl
theorem Sp.end_ (h : Sp w g r e gv s) : w.cell? ⟨g, 1, none⟩ = some (.int .u8 (e : Nat)) := by
  rw [h.2.cell (by omega), put_out _ _ _ _ (by omega)]; rfl
theorem Sp.at_ (h : Sp w g r e gv s) : w.cell? ⟨g, 27, none⟩ = some (.int .i64 (s.1 : Nat)) := by
  rw [h.2.cell (by omega), put_out _ _ _ _ (by omega)]; rfl
theorem Sp.gives (h : Sp w g r e gv s) : w.cell? ⟨g, 28, none⟩ = some (.bool gv) := by
  rw [h.2.cell (by omega), put_out _ _ _ _ (by omega)]; rfl
theorem Sp.frozen (h : Sp w g r e gv s) (i : Nat) : w.frozen? ⟨g, i, none⟩ = false := h.2.frozen i
theorem Sp.setAt (h : Sp w g r e gv s) (a : Nat) : Sp (w.setCell ⟨g, 27, none⟩ (.int .i64 (a : Nat))) g r e gv (a, s.2) := by
  refine ⟨h.1, (h.2.set 27 (.int .i64 (a : Nat))).congr fun j hj => ?_⟩
  by_cases e27 : j = 27
  · subst e27; rw [if_pos rfl, put_out _ _ _ _ (by omega)]; rfl
  · rw [if_neg e27]
    unfold put
    split
    · rfl
    · unfold spF
      split <;> first | rfl | omega | simp_all
theorem Sp.setGives (h : Sp w g r e gv s) (b : Bool) : Sp (w.setCell ⟨g, 28, none⟩ (.bool b)) g r e b s := by
  refine ⟨h.1, (h.2.set 28 (.bool b)).congr fun j hj => ?_⟩
  by_cases e27 : j = 28
  · subst e27; rw [if_pos rfl, put_out _ _ _ _ (by omega)]; rfl
  · rw [if_neg e27]
    unfold put
    split
    · rfl
    · unfold spF
      split <;> first | rfl | omega | simp_all
end

set_option maxHeartbeats 1000000 in
set_option maxRecDepth 100000 in
theorem goOn_any (g r e : Nat) (gv : Bool) (s : Nat × List Nat) (w : World) (hS : Sp w g r e gv s) (hG : Good r s) (hr : r ≤ 192) (hT : Tables w) (hb : 6 ≤ g) :
    Calls Tryd.prog 57 #[.pointer (some ⟨g, 0, none⟩)] w fun e' w' => e' = .returned (.tuple #[]) ∧ Sp w' g r e gv (stepAt r s) ∧ w.grownBy w' (some g) := by
  obtain ⟨a, ws⟩ := s
  have ha : a < r := hG.1
  have hO : Ok ws := hG.2
  have c0 := hS.rate
  have c1 := hS.at_
  have f1 := hS.frozen 27
  have HS := Lib.hid hS; have HO := Lib.hid hO; have HT := Lib.hid hT; clear hS hO hG hT
  dsimp only at c1
  by_cases h : a + 1 = r
  · have hd : ((a : Int) + 1 == (r : Int)) = true := by rw [beq_iff_eq]; omega
    have HH := Lib.hid h; clear h
    go_enter Tryd.func57, Tryd.ntmps57
    go_wp2
    go_quiet (fail)
    go_wp2_with fail
    have HS1 : Hid (Sp ((w.setCell ⟨g, 27, none⟩ (.int .i64 ((a : Int) + 1))).drewN nq) g r e gv (a + 1, ws)) := Lib.hid (HS.out.setAt (a + 1))
    have HG1 := Lib.hid (only_drewN (only_set (World.grownBy.refl w (some g)) (p := ⟨g, 27, none⟩) (.inl rfl) (.int .i64 ((a : Int) + 1))) nq)
    have HT1 := Lib.hid (HT.out.grown HG1.out hb)
    refine (change_any g 78 29 2 (spF r e (a + 1) gv) ws _ HS1.out HO.out HT1.out hb).mono ?_
    rintro e' w2 ⟨rfl, hS2, hG2⟩
    have hS2' : Sp w2 g r e gv (a + 1, change ws) := hS2
    have f2 := hS2'.frozen 27
    have c2 := hS2'.at_
    have HS2 := Lib.hid hS2'; have HG2 := Lib.hid (only_then HG1.out hG2 (.inl rfl)); clear hS2 hS2' hG2
    dsimp only at c2
    go_wp2
    go_end0
    refine ⟨rfl, ?_, only_set HG2.out (.inl rfl) _⟩
    rw [show stepAt r (a, ws) = (0, change ws) from if_pos HH.out]
    exact HS2.out.setAt 0
  · have hd : ((a : Int) + 1 == (r : Int)) = false := by rw [beq_eq_false_iff_ne]; omega
    have HH := Lib.hid h; clear h
    go_enter Tryd.func57, Tryd.ntmps57
    go_wp2
    go_quiet (fail)
    go_wp2
    go_end0
    refine ⟨rfl, ?_, only_drewN (only_set (World.grownBy.refl _ _) (.inl rfl) _) _⟩
    rw [show stepAt r (a, ws) = (a + 1, ws) from if_neg HH.out]
    exact HS.out.setAt (a + 1)

theorem Sp.lay {w w' : World} {g r e : Nat} {gv : Bool} {s : Nat × List Nat} {i v : Nat} (_h : Sp w g r e gv s) (h' : St w' g 78 29 (spF r e s.1 gv) 2 (Kec.lay s.2 i v)) : Sp w' g r e gv (s.1, Kec.lay s.2 i v) := h'

set_option maxHeartbeats 1000000 in
set_option maxRecDepth 100000 in
theorem turn_any (g r e : Nat) (s : Nat × List Nat) (w : World) (hS : Sp w g r e false s) (hG : Good r s) (hr0 : 0 < r) (hr : r ≤ 192) (he : e < 256) (hT : Tables w) (hb : 6 ≤ g) :
    Calls Tryd.prog 58 #[.pointer (some ⟨g, 0, none⟩)] w fun e' w' => e' = .returned (.tuple #[]) ∧ Sp w' g r e true (turned r e s) ∧ w.grownBy w' (some g) := by
  obtain ⟨a, ws⟩ := s
  have ha : a < r := hG.1
  have hO : Ok ws := hG.2
  have c0 := hS.rate
  have c1 := hS.at_
  have c2 := hS.end_
  dsimp only at c1
  have HS := Lib.hid hS; have HO := Lib.hid hO; have HT := Lib.hid hT; clear hS hO hG hT
  go_enter Tryd.func58, Tryd.ntmps58
  go_wp2
  refine wp_region_still_tail 11 (by kernel_rfl) (by kernel_rfl) ?_
  simp only [List.take_succ_cons, List.take_zero, List.drop_succ_cons, List.drop_zero]
  repeat still_step
  refine wpStill_nil ?_
  change wpList _ _ _ _ _ w.drew
  go_wp2_with fail
  refine (add_any g 78 29 2 a e (spF r e a false) ws _ (by omega) he HS.out.drew HO.out).mono ?_
  rintro e' w1 ⟨rfl, hS1, hG1⟩
  have HS1 : Hid (Sp w1 g r e false (a, lay ws a e)) := Lib.hid hS1
  have HG1 := Lib.hid (only_then (only_drew (World.grownBy.refl w (some g))) hG1 (.inl rfl))
  have HO1 := Lib.hid (ok_lay HO.out a e (by omega))
  clear hS1 hG1 c0 c1 c2
  have c0 := HS1.out.rate
  go_wp2
  refine wp_region_still_tail 8 (by kernel_rfl) (by kernel_rfl) ?_
  simp only [List.take_succ_cons, List.take_zero, List.drop_succ_cons, List.drop_zero]
  repeat still_step
  refine wpStill_nil ?_
  change wpList _ _ _ _ _ w1.drew
  go_wp2_with fail
  rw [show ((r : Int) - 1) = ((r - 1 : Nat) : Int) by omega]
  refine (add_any g 78 29 2 (r - 1) 128 (spF r e a false) (lay ws a e) _ (by omega) (by omega) HS1.out.drew HO1.out).mono ?_
  rintro e' w2 ⟨rfl, hS2, hG2⟩
  have HS2 : Hid (Sp w2 g r e false (a, lay (lay ws a e) (r - 1) 128)) := Lib.hid hS2
  have HG2 := Lib.hid (only_then (only_drew HG1.out) hG2 (.inl rfl))
  have HO2 := Lib.hid (ok_lay HO1.out (r - 1) 128 (by omega))
  have HT2 := Lib.hid (HT.out.grown HG2.out hb)
  clear hS2 hG2 c0
  go_wp2_with fail
  refine (change_any g 78 29 2 (spF r e a false) (lay (lay ws a e) (r - 1) 128) _ HS2.out HO2.out HT2.out hb).mono ?_
  rintro e' w3 ⟨rfl, hS3, hG3⟩
  have hS3' : Sp w3 g r e false (a, change (lay (lay ws a e) (r - 1) 128)) := hS3
  have f0 := hS3'.frozen 27
  have f1 := hS3'.frozen 28
  have c0 := hS3'.at_
  have c1 := hS3'.gives
  dsimp only at c0
  have HS3 := Lib.hid hS3'; have HG3 := Lib.hid (only_then HG2.out hG3 (.inl rfl)); clear hS3 hS3' hG3
  go_wp2
  go_end0
  exact ⟨rfl, (HS3.out.setAt 0).setGives true, only_set (only_set HG3.out (.inl rfl) _) (.inl rfl) _⟩

end Go.Proofs.YtfhibjpkbbbfpaaDoor.Kec

namespace Go.Proofs.YtfhibjpkbbbfpaaDoor.Kec
set_option linter.all false
open Go.RowKit

/-- a slice of bytes that lies below block B, nil let in -/
def Rd (w : World) (B : Nat) (A : Option Addr) (bs : List Nat) : Prop :=
  (∀ j, gt bs j < 256) ∧ (0 < bs.length → ∃ ad : Addr, A = some ad ∧ ad.block < B ∧ ∀ j, j < bs.length → w.cell? (ad.add j) = some (.int .u8 (gt bs j : Nat)))
theorem Rd.keep {w w' : World} {B : Nat} {A : Option Addr} {bs : List Nat} (h : Rd w B A bs) (e : ∀ p : Addr, p.block < B → w'.cell? p = w.cell? p) : Rd w' B A bs := by
  refine ⟨h.1, fun hn => ?_⟩
  obtain ⟨ad, h1, h2, h3⟩ := h.2 hn
  refine ⟨ad, h1, h2, fun j hj => ?_⟩
  rw [e _ (by unfold Addr.add; split <;> exact h2)]
  exact h3 j hj
theorem Rd.grown {w w' : World} {B g : Nat} {A : Option Addr} {bs : List Nat} (h : Rd w B A bs) (hg : w.grownBy w' (some g)) (hB : B ≤ g) (hw : B ≤ w.heap.size) : Rd w' B A bs :=
  h.keep fun p hp => World.cell?_of_block (hg.block p.block (by omega) (by intro e; injection e; omega))
theorem Rd.below {w w' : World} {B : Nat} {A : Option Addr} {bs : List Nat} (h : Rd w B A bs) (hg : Below B w w') : Rd w' B A bs := h.keep fun _ hp => hg.cell hp
theorem Rd.more {w : World} {B B' : Nat} {A : Option Addr} {bs : List Nat} (h : Rd w B A bs) (hB : B ≤ B') : Rd w B' A bs := by
  refine ⟨h.1, fun hn => ?_⟩
  obtain ⟨ad, h1, h2, h3⟩ := h.2 hn
  exact ⟨ad, h1, by omega, h3⟩
theorem Rd.nil (w : World) (B : Nat) (A : Option Addr) : Rd w B A [] := ⟨fun _ => by simp [gt], fun h => absurd h (by simp)⟩

set_option maxHeartbeats 1000000 in
set_option maxRecDepth 100000 in
theorem write_gives (g r e : Nat) (s : Nat × List Nat) (v : Value) (w : World) (hS : Sp w g r e true s) :
    Calls Tryd.prog 45 #[.pointer (some ⟨g, 0, none⟩), v] w fun e' w' => e' = .returned (.tuple #[]) ∧ w = w' := by
  have c0 := hS.gives
  clear hS
  go_enter Tryd.func45, Tryd.ntmps45
  go_wp2
  refine bodyPost_ret (results_none rfl _ _ _) rfl ⟨rfl, rfl⟩

set_option maxHeartbeats 1000000 in
set_option maxRecDepth 100000 in
theorem write_any (g r e B : Nat) (s : Nat × List Nat) (A : Option Addr) (bs : List Nat) (n c : Nat) (w : World) (hS : Sp w g r e false s) (hG : Good r s) (hr : r ≤ 192) (hT : Tables w) (hb : 6 ≤ g)
    (hR : Rd w B A bs) (hB : B ≤ g) (hn : bs.length = n) (hm : n ≤ 9223372036854775807) :
    Calls Tryd.prog 45 #[.pointer (some ⟨g, 0, none⟩), .slice A n c] w fun e' w' => e' = .returned (.tuple #[]) ∧ Sp w' g r e false (takeAll r s bs) ∧ w.grownBy w' (some g) := by
  have hlt : g < w.heap.size := hS.2.lt
  have c0 := hS.gives
  have HS := Lib.hid hS; have HG := Lib.hid hG; have HT := Lib.hid hT; have HR := Lib.hid hR; have HN := Lib.hid hn; clear hS hG hT hR hn
  go_enter Tryd.func45, Tryd.ntmps45
  go_wp2
  clear c0
  go_loopw [12] (fun i W => ∃ k : Nat, k ≤ n ∧ i = .int .i64 k ∧ Hid (Sp W g r e false (takeAll r s (bs.take k))) ∧ Hid (w.grownBy W (some g))) (fun i _ => n - (intOf i).toNat)
  case atStart => exact ⟨0, by omega, rfl, HS, Lib.hid (World.grownBy.refl _ _)⟩
  case round =>
    obtain ⟨k, hk, rfl, HS1, HG1⟩ := hrel
    by_cases hkn : k < n
    · obtain ⟨hb256, hR1⟩ := HR.out.grown HG1.out hB (by omega)
      obtain ⟨ad, rfl, hadB, hcell⟩ := hR1 (by rw [HN.out]; omega)
      have c0 := hcell k (by rw [HN.out]; exact hkn)
      have hv := hb256 k
      clear hR1 hcell hb256
      have hgood := good_takeAll hr (bs.take k) HG.out
      have hsn := takeAll_snoc r s bs k (by rw [HN.out]; exact hkn)
      have hlen := HN.out
      generalize takeAll r s (bs.take k) = s1 at *
      obtain ⟨a, ws⟩ := s1
      have ha : a < r := hgood.1
      have HGD := Lib.hid hgood; have HSN := Lib.hid hsn; clear hgood hsn hlen
      have c1 := HS1.out.at_
      dsimp only at c1
      go_wp2
      refine wp_region_still_tail 8 (by kernel_rfl) (by kernel_rfl) ?_
      simp only [List.take_succ_cons, List.take_zero, List.drop_succ_cons, List.drop_zero]
      repeat still_step
      refine wpStill_nil ?_
      change wpList _ _ _ _ _ wr.drew
      go_wp2_with fail
      refine (add_any g 78 29 2 a (gt bs k) (spF r e a false) ws _ (by omega) hv HS1.out.drew HGD.out.2).mono ?_
      rintro e' w1 ⟨rfl, hS2, hG2⟩
      have HS2 : Hid (Sp w1 g r e false (a, lay ws a (gt bs k))) := Lib.hid hS2
      have HG2 := Lib.hid (only_then (only_drew HG1.out) hG2 (.inl rfl))
      have HT2 := Lib.hid (HT.out.grown HG2.out hb)
      clear hS2 hG2 c1 c0
      go_wp2_with fail
      refine (goOn_any g r e false (a, lay ws a (gt bs k)) _ HS2.out ⟨ha, ok_lay HGD.out.2 _ _ (by omega)⟩ hr HT2.out hb).mono ?_
      rintro e' w2 ⟨rfl, hS3, hG3⟩
      have HS3 := Lib.hid hS3; have HG3 := Lib.hid (only_then HG2.out hG3 (.inl rfl)); clear hS3 hG3
      go_wp2
      go_roundw
      case rel => exact ⟨k + 1, by omega, by go_num, Lib.hid (by rw [HSN.out]; exact HS3.out), HG3⟩
      case measure => simp [intOf]; omega
    · obtain rfl : k = n := by omega
      go_wp2
      go_end0
      refine ⟨rfl, ?_, HG1.out⟩
      have := HS1.out
      rwa [List.take_of_length_le (by rw [HN.out]; omega)] at this

set_option maxHeartbeats 1000000 in
set_option maxRecDepth 100000 in
theorem new_bad (r : Int) (e : Nat) (w : World) (h : r < 8 ∨ 192 < r ∨ r % 8 ≠ 0) :
    Calls Tryd.prog 44 #[.int .i64 r, .int .u8 e] w fun e' w' => e' = .returned (.pointer none) ∧ w = w' := by
  by_cases h1 : r < 8
  · go_enter Tryd.func44, Tryd.ntmps44
    go_wp2
    go_ret
    exact ⟨rfl, rfl⟩
  · by_cases h2 : 192 < r
    · go_enter Tryd.func44, Tryd.ntmps44
      go_wp2
      go_ret
      exact ⟨rfl, rfl⟩
    · have h3 : (r % 8 != 0) = true := by rw [bne_iff_ne]; omega
      go_enter Tryd.func44, Tryd.ntmps44
      go_wp2
      go_ret
      exact ⟨rfl, rfl⟩

theorem new_cells (r e i : Nat) (hi : i < 29) : (#[Value.int IntKind.i64 (r : Int), Value.int IntKind.u8 (e : Int), Value.int IntKind.u64 0, Value.int IntKind.u64 0, Value.int IntKind.u64 0, Value.int IntKind.u64 0, Value.int IntKind.u64 0, Value.int IntKind.u64 0, Value.int IntKind.u64 0, Value.int IntKind.u64 0, Value.int IntKind.u64 0, Value.int IntKind.u64 0, Value.int IntKind.u64 0, Value.int IntKind.u64 0, Value.int IntKind.u64 0, Value.int IntKind.u64 0, Value.int IntKind.u64 0, Value.int IntKind.u64 0, Value.int IntKind.u64 0, Value.int IntKind.u64 0, Value.int IntKind.u64 0, Value.int IntKind.u64 0, Value.int IntKind.u64 0, Value.int IntKind.u64 0, Value.int IntKind.u64 0, Value.int IntKind.u64 0, Value.int IntKind.u64 0, Value.int IntKind.i64 0, Value.bool false] : Array Value)[i]? = some (put (spF r e 0 false) 2 zeros i) := by
  match i, hi with
  | 0, _ | 1, _ | 2, _ | 3, _ | 4, _ | 5, _ | 6, _ | 7, _ | 8, _ | 9, _ | 10, _ | 11, _ | 12, _ | 13, _ | 14, _ | 15, _ | 16, _ | 17, _ | 18, _ | 19, _ | 20, _ | 21, _ | 22, _ | 23, _ | 24, _ | 25, _ | 26, _ | 27, _ | 28, _ => rfl
  | n + 29, h => omega

set_option maxHeartbeats 1000000 in
set_option maxRecDepth 100000 in
theorem new_any (r e : Nat) (w : World) (h1 : 8 ≤ r) (h2 : r ≤ 192) (h3 : r % 8 = 0) :
    Calls Tryd.prog 44 #[.int .i64 r, .int .u8 e] w fun e' w' => e' = .returned (.pointer (some ⟨w.heap.size, 0, none⟩)) ∧ Sp w' w.heap.size r e false start ∧ Below w.heap.size w w' ∧ w'.heap.size = w.heap.size + 1 := by
  have hd : ((r : Int) % 8 != 0) = false := by rw [bne_eq_false_iff_eq]; omega
  have h4 : ¬ ((r : Int) < 8) := by omega
  have h5 : ¬ (192 < (r : Int)) := by omega
  clear h3
  go_enter Tryd.func44, Tryd.ntmps44
  go_wp2
  go_ret
  refine ⟨rfl, ⟨by omega, World.rowIs_alloc w _ 78 (put (spF r e 0 false) 2 zeros) ?_⟩, (Below.refl _ _).alloc (Nat.le_refl _) _, by simp⟩
  intro i hi
  exact new_cells r e i hi

end Go.Proofs.YtfhibjpkbbbfpaaDoor.Kec

namespace Go.Proofs.YtfhibjpkbbbfpaaDoor.Kec
set_option linter.all false
open Go.RowKit

def byteRow (bs : List Nat) : Nat → Value := fun j => .int .u8 (gt bs j : Nat)
def gaveRow (r : Nat) (s : Nat × List Nat) (k : Nat) : Nat → Value := fun j => if j < k then .int .u8 (outAt r s j : Nat) else .int .u8 0

set_option maxHeartbeats 1000000 in
set_option maxRecDepth 100000 in
theorem read_bad (g : Nat) (n : Int) (w : World) (h : n < 0 ∨ 65536 < n) :
    Calls Tryd.prog 46 #[.pointer (some ⟨g, 0, none⟩), .int .i64 n] w fun e' w' => e' = .returned (.slice none 0 0) ∧ w = w' := by
  by_cases h1 : n < 0
  · go_enter Tryd.func46, Tryd.ntmps46
    go_wp2
    go_ret
    exact ⟨rfl, rfl⟩
  · have h2 : 65536 < n := by omega
    go_enter Tryd.func46, Tryd.ntmps46
    go_wp2
    go_ret
    exact ⟨rfl, rfl⟩

theorem byteAt_same (b t n o i : Nat) (f : Nat → Value) (ws : List Nat) (w : World) (hi : i < 200) (hS : St w b t n f o ws) :
    Calls Tryd.prog 59 #[.pointer (some ⟨b, o, none⟩), .int .i64 i] w fun e w' => e = .returned (.int .u8 (byteAt ws i : Nat)) ∧ w' = w :=
  (byteAt_any b t n o i f ws w hi hS).mono fun _ _ ⟨h, h'⟩ => ⟨h, h'.symm⟩
/-- what a Read leaves: the sponge, and n bytes in a new block -/
def Gave (w : World) (g r e : Nat) (s : Nat × List Nat) (n : Nat) (e' : Ending) (w' : World) : Prop :=
  ∃ h, e' = .returned (.slice (some ⟨h, 0, none⟩) n n) ∧ w.heap.size ≤ h ∧ w'.rowIs h 5 n (byteRow (outs r s n)) ∧ Sp w' g r e true (after r s n) ∧ w.grownBy w' (some g)

set_option maxHeartbeats 1000000 in
set_option maxRecDepth 100000 in
theorem read_gives (g r e : Nat) (s : Nat × List Nat) (n : Nat) (w : World) (hS : Sp w g r e true s) (hG : Good r s) (hr : r ≤ 192) (hT : Tables w) (hb : 6 ≤ g) (hn : n ≤ 65536) :
    Calls Tryd.prog 46 #[.pointer (some ⟨g, 0, none⟩), .int .i64 n] w (Gave w g r e s n) := by
  have hlt : g < w.heap.size := hS.2.lt
  have c0 := hS.gives
  have h1 : ¬ ((n : Int) < 0) := by omega
  have h2 : ¬ (65536 < (n : Int)) := by omega
  have HS := Lib.hid hS; have HG := Lib.hid hG; have HT := Lib.hid hT; clear hS hG hT
  have hmk := fun W => run_make_row' (P := Tryd.prog) 22 5 (.int .u8 0) 1 Tryd.underlying22 (by kernel_rfl) rfl .i64 .i64 n (by omega) (by omega) W
  go_enter Tryd.func46, Tryd.ntmps46
  go_wp2
  go_loopw [24] (fun i W => ∃ k : Nat, k ≤ n ∧ i = .int .i64 k ∧ Hid (Sp W g r e true (after r s k)) ∧ Hid (W.rowIs w.heap.size 5 n (gaveRow r s k)) ∧ Hid (w.grownBy W (some g))) (fun i _ => n - (intOf i).toNat)
  case atStart =>
    refine ⟨0, by omega, rfl, Lib.hid (HS.out.alloc _), Lib.hid ((World.rowIs_made w (.int .u8 0) n 5).congr fun i _ => ?_), Lib.hid (World.grownBy_alloc _ _ _)⟩
    unfold gaveRow; rw [if_neg (by omega)]
  case round =>
    obtain ⟨k, hk, rfl, HS1, HR1, HG1⟩ := hrel
    by_cases hkn : k < n
    · have hgood := good_after HG.out k
      have hst : after r s (k + 1) = stepAt r (after r s k) := rfl
      have hout : outAt r s k = byteAt (after r s k).2 (after r s k).1 := rfl
      generalize after r s k = s1 at *
      obtain ⟨a, ws⟩ := s1
      have ha : a < r := hgood.1
      have HGD := Lib.hid hgood; have HST := Lib.hid hst; have HOUT := Lib.hid hout; clear hgood hst hout
      have c1 := HS1.out.at_
      dsimp only at c1
      have d0 := HR1.out.cell hkn
      have d1 := HR1.out.frozen k
      have HT1 := Lib.hid (HT.out.grown HG1.out hb)
      go_wp2
      refine wp_region_still_tail 10 (by kernel_rfl) (by kernel_rfl) ?_
      simp only [List.take_succ_cons, List.take_zero, List.drop_succ_cons, List.drop_zero]
      repeat still_step
      still_call (byteAt_same g 78 29 2 a (spF r e a true) ws _ (by omega) HS1.out.drew)
      refine wpStill_nil ?_
      change wpList _ _ _ _ _ wr.drew
      go_wp2_with fail
      have HS2 : Hid (Sp (wr.setCell ⟨w.heap.size, k, none⟩ (.int .u8 (byteAt ws a : Nat))).drew g r e true (a, ws)) := Lib.hid (HS1.out.far (by show g ≠ w.heap.size; omega) _).drew
      have HG2 := Lib.hid (only_drew (only_set HG1.out (p := ⟨w.heap.size, k, none⟩) (.inr (Nat.le_refl _)) (.int .u8 (byteAt ws a : Nat))))
      have HR2 : Hid ((wr.setCell ⟨w.heap.size, k, none⟩ (.int .u8 (byteAt ws a : Nat))).drew.rowIs w.heap.size 5 n (gaveRow r s (k + 1))) := Lib.hid (((HR1.out.set k (.int .u8 (byteAt ws a : Nat))).drew).congr fun i _ => by
        unfold gaveRow
        by_cases e : i = k
        · subst e; rw [if_pos rfl, if_pos (by omega), HOUT.out]
        · rw [if_neg e]
          by_cases h : i < k
          · rw [if_pos h, if_pos (by omega)]
          · rw [if_neg h, if_neg (by omega)])
      have HT2 := Lib.hid (HT.out.grown HG2.out hb)
      refine (goOn_any g r e true (a, ws) _ HS2.out HGD.out hr HT2.out hb).mono ?_
      rintro e' w2 ⟨rfl, hS3, hG3⟩
      have HS3 := Lib.hid hS3; have HG3 := Lib.hid (only_then HG2.out hG3 (.inl rfl))
      have HR3 := Lib.hid (HR2.out.of_block (hG3.block w.heap.size HR2.out.lt (by intro e; injection e; omega)))
      clear hS3 hG3
      go_wp2
      go_roundw
      case rel => exact ⟨k + 1, by omega, by go_num, Lib.hid (by rw [HST.out]; exact HS3.out), HR3, HG3⟩
      case measure => simp [intOf]; omega
    · obtain rfl : k = n := by omega
      go_wp2
      go_ret
      refine ⟨w.heap.size, rfl, Nat.le_refl _, HR1.out.congr fun i hi => ?_, HS1.out, HG1.out⟩
      unfold gaveRow byteRow
      rw [if_pos hi, gt_outs _ _ _ _ hi]

set_option maxHeartbeats 1000000 in
set_option maxRecDepth 100000 in
theorem read_turns (g r e : Nat) (s : Nat × List Nat) (n : Nat) (w : World) (hS : Sp w g r e false s) (hG : Good r s) (hr0 : 0 < r) (hr : r ≤ 192) (he : e < 256) (hT : Tables w) (hb : 6 ≤ g) (hn : n ≤ 65536) :
    Calls Tryd.prog 46 #[.pointer (some ⟨g, 0, none⟩), .int .i64 n] w (Gave w g r e (turned r e s) n) := by
  have hlt : g < w.heap.size := hS.2.lt
  have c0 := hS.gives
  have h1 : ¬ ((n : Int) < 0) := by omega
  have h2 : ¬ (65536 < (n : Int)) := by omega
  have HS := Lib.hid hS; have HG0 := Lib.hid hG; have HT0 := Lib.hid hT; clear hS hG hT
  have hmk := fun W => run_make_row' (P := Tryd.prog) 22 5 (.int .u8 0) 1 Tryd.underlying22 (by kernel_rfl) rfl .i64 .i64 n (by omega) (by omega) W
  go_enter Tryd.func46, Tryd.ntmps46
  go_wp2_with fail
  refine (turn_any g r e s _ HS.out HG0.out hr0 hr he HT0.out hb).mono ?_
  rintro e' w0 ⟨rfl, hSt, hGt⟩
  have HSt := Lib.hid hSt; have HGt := Lib.hid hGt
  have HG := Lib.hid (good_turned e HG0.out hr0 hr)
  have HT := Lib.hid (HT0.out.grown hGt hb)
  have hsz := hGt.size
  clear hSt hGt c0
  generalize turned r e s = s0 at *
  go_wp2
  go_loopw [24] (fun i W => ∃ k : Nat, k ≤ n ∧ i = .int .i64 k ∧ Hid (Sp W g r e true (after r s0 k)) ∧ Hid (W.rowIs w0.heap.size 5 n (gaveRow r s0 k)) ∧ Hid (w0.grownBy W (some g))) (fun i _ => n - (intOf i).toNat)
  case atStart =>
    refine ⟨0, by omega, rfl, Lib.hid (HSt.out.alloc _), Lib.hid ((World.rowIs_made w0 (.int .u8 0) n 5).congr fun i _ => ?_), Lib.hid (World.grownBy_alloc _ _ _)⟩
    unfold gaveRow; rw [if_neg (by omega)]
  case round =>
    obtain ⟨k, hk, rfl, HS1, HR1, HG1⟩ := hrel
    by_cases hkn : k < n
    · have hgood := good_after HG.out k
      have hst : after r s0 (k + 1) = stepAt r (after r s0 k) := rfl
      have hout : outAt r s0 k = byteAt (after r s0 k).2 (after r s0 k).1 := rfl
      generalize after r s0 k = s1 at *
      obtain ⟨a, ws⟩ := s1
      have ha : a < r := hgood.1
      have HGD := Lib.hid hgood; have HST := Lib.hid hst; have HOUT := Lib.hid hout; clear hgood hst hout
      have c1 := HS1.out.at_
      dsimp only at c1
      have d0 := HR1.out.cell hkn
      have d1 := HR1.out.frozen k
      go_wp2
      refine wp_region_still_tail 10 (by kernel_rfl) (by kernel_rfl) ?_
      simp only [List.take_succ_cons, List.take_zero, List.drop_succ_cons, List.drop_zero]
      repeat still_step
      still_call (byteAt_same g 78 29 2 a (spF r e a true) ws _ (by omega) HS1.out.drew)
      refine wpStill_nil ?_
      change wpList _ _ _ _ _ wr.drew
      go_wp2_with fail
      have HS2 : Hid (Sp (wr.setCell ⟨w0.heap.size, k, none⟩ (.int .u8 (byteAt ws a : Nat))).drew g r e true (a, ws)) := Lib.hid (HS1.out.far (by show g ≠ w0.heap.size; omega) _).drew
      have HG2 := Lib.hid (only_drew (only_set HG1.out (p := ⟨w0.heap.size, k, none⟩) (.inr (Nat.le_refl _)) (.int .u8 (byteAt ws a : Nat))))
      have HR2 : Hid ((wr.setCell ⟨w0.heap.size, k, none⟩ (.int .u8 (byteAt ws a : Nat))).drew.rowIs w0.heap.size 5 n (gaveRow r s0 (k + 1))) := Lib.hid (((HR1.out.set k (.int .u8 (byteAt ws a : Nat))).drew).congr fun i _ => by
        unfold gaveRow
        by_cases e : i = k
        · subst e; rw [if_pos rfl, if_pos (by omega), HOUT.out]
        · rw [if_neg e]
          by_cases h : i < k
          · rw [if_pos h, if_pos (by omega)]
          · rw [if_neg h, if_neg (by omega)])
      have HT2 := Lib.hid (HT.out.grown HG2.out hb)
      refine (goOn_any g r e true (a, ws) _ HS2.out HGD.out hr HT2.out hb).mono ?_
      rintro e' w2 ⟨rfl, hS3, hG3⟩
      have HS3 := Lib.hid hS3; have HG3 := Lib.hid (only_then HG2.out hG3 (.inl rfl))
      have HR3 := Lib.hid (HR2.out.of_block (hG3.block w0.heap.size HR2.out.lt (by intro e; injection e; omega)))
      clear hS3 hG3
      go_wp2
      go_roundw
      case rel => exact ⟨k + 1, by omega, by go_num, Lib.hid (by rw [HST.out]; exact HS3.out), HR3, HG3⟩
      case measure => simp [intOf]; omega
    · obtain rfl : k = n := by omega
      go_wp2
      go_ret
      refine ⟨w0.heap.size, rfl, hsz, HR1.out.congr fun i hi => ?_, HS1.out, only_then HGt.out HG1.out (.inl rfl)⟩
      unfold gaveRow byteRow
      rw [if_pos hi, gt_outs _ _ _ _ hi]

end Go.Proofs.YtfhibjpkbbbfpaaDoor.Kec

namespace Go.Proofs.YtfhibjpkbbbfpaaDoor.Kec
set_option linter.all false
open Go.RowKit

theorem sponge_len (r e : Nat) (bs : List Nat) (n : Nat) : (sponge r e bs n).length = n := outs_len _ _ _
/-- bytes in a new block, and nothing that was there has turned -/
def Out (w : World) (bs : List Nat) (e' : Ending) (w' : World) : Prop :=
  ∃ h, e' = .returned (.slice (some ⟨h, 0, none⟩) bs.length bs.length) ∧ w.heap.size ≤ h ∧ w'.rowIs h 5 bs.length (byteRow bs) ∧ Below w.heap.size w w'

theorem below_of_only {w w1 w2 : World} {g : Nat} (h : Below w.heap.size w w1) (k : w1.grownBy w2 (some g)) (hg : w.heap.size ≤ g) : Below w.heap.size w w2 :=
  ⟨k.os.trans h.os, k.tape.trans h.tape, k.output.trans h.output, Nat.le_trans h.size k.size, fun i hi => (k.block i (Nat.lt_of_lt_of_le hi h.size) (by intro e; injection e; omega)).trans (h.block i hi)⟩

set_option maxHeartbeats 1000000 in
theorem once_any (r e : Nat) (A : Option Addr) (bs : List Nat) (n c m : Nat) (w : World) (h1 : 8 ≤ r) (h2 : r ≤ 192) (h3 : r % 8 = 0) (he : e < 256) (hT : Tables w)
    (hR : Rd w w.heap.size A bs) (hn : bs.length = n) (hm : n ≤ 9223372036854775807) (hk : m ≤ 65536) :
    Calls Tryd.prog 33 #[.int .i64 r, .int .u8 e, .slice A n c, .int .i64 m] w (Out w (sponge r e bs m)) := by
  have h3' := hT.lt
  have HT := Lib.hid hT; have HR := Lib.hid hR; have HN := Lib.hid hn; have H3 := Lib.hid h3; clear hT hR hn h3
  go_enter Tryd.func33, Tryd.ntmps33
  go_wp2_with fail
  refine (new_any r e _ h1 h2 H3.out).mono ?_
  rintro e' w1 ⟨rfl, hS, hB, hz⟩
  have HS := Lib.hid hS; have HB := Lib.hid hB; clear hS hB hz
  have HT1 := Lib.hid (HT.out.below HB.out h3')
  have HR1 := Lib.hid (HR.out.below HB.out)
  go_wp2_with fail
  refine (write_any w.heap.size r e w.heap.size start A bs n c _ HS.out (good_start (by omega)) h2 HT1.out h3' HR1.out (Nat.le_refl _) HN.out hm).mono ?_
  rintro e' w2 ⟨rfl, hS2, hG2⟩
  have HS2 := Lib.hid hS2; have HG2 := Lib.hid hG2; clear hS2 hG2
  have HT2 := Lib.hid (HT1.out.grown HG2.out h3')
  go_wp2_with fail
  refine (read_turns w.heap.size r e _ m _ HS2.out (good_takeAll h2 bs (good_start (by omega))) (by omega) h2 he HT2.out h3' hk).mono ?_
  rintro e' w3 ⟨h, rfl, hh, hrow, _, hG3⟩
  have HROW := Lib.hid hrow; have HG3 := Lib.hid hG3; clear hrow hG3
  go_wp2
  go_ret
  have hb2 := below_of_only HB.out HG2.out (Nat.le_refl _)
  refine ⟨h, by rw [sponge_len]; rfl, Nat.le_trans hb2.size hh, by rw [sponge_len]; exact HROW.out, below_of_only hb2 HG3.out (Nat.le_refl _)⟩

set_option maxHeartbeats 1000000 in
theorem once_bad (r e : Nat) (A : Option Addr) (bs : List Nat) (n c : Nat) (m : Int) (w : World) (h1 : 8 ≤ r) (h2 : r ≤ 192) (h3 : r % 8 = 0) (hT : Tables w)
    (hR : Rd w w.heap.size A bs) (hn : bs.length = n) (hm : n ≤ 9223372036854775807) (hk : m < 0 ∨ 65536 < m) :
    Calls Tryd.prog 33 #[.int .i64 r, .int .u8 e, .slice A n c, .int .i64 m] w fun e' w' => e' = .returned (.slice none 0 0) ∧ Below w.heap.size w w' := by
  have h3' := hT.lt
  have HT := Lib.hid hT; have HR := Lib.hid hR; have HN := Lib.hid hn; have H3 := Lib.hid h3; have HK := Lib.hid hk; clear hT hR hn h3 hk
  go_enter Tryd.func33, Tryd.ntmps33
  go_wp2_with fail
  refine (new_any r e _ h1 h2 H3.out).mono ?_
  rintro e' w1 ⟨rfl, hS, hB, hz⟩
  have HS := Lib.hid hS; have HB := Lib.hid hB; clear hS hB hz
  have HT1 := Lib.hid (HT.out.below HB.out h3')
  have HR1 := Lib.hid (HR.out.below HB.out)
  go_wp2_with fail
  refine (write_any w.heap.size r e w.heap.size start A bs n c _ HS.out (good_start (by omega)) h2 HT1.out h3' HR1.out (Nat.le_refl _) HN.out hm).mono ?_
  rintro e' w2 ⟨rfl, _, hG2⟩
  have HG2 := Lib.hid hG2; clear hG2
  go_wp2_with fail
  refine (read_bad w.heap.size m _ HK.out).mono ?_
  rintro e' w3 ⟨rfl, rfl⟩
  go_wp2
  go_ret
  exact ⟨rfl, below_of_only HB.out HG2.out (Nat.le_refl _)⟩

theorem shake256_any (A : Option Addr) (bs : List Nat) (n c m : Nat) (w : World) (hT : Tables w) (hR : Rd w w.heap.size A bs) (hn : bs.length = n) (hm : n ≤ 9223372036854775807) (hk : m ≤ 65536) :
    Calls Tryd.prog 22 #[.slice A n c, .int .i64 m] w (Out w (sponge 136 31 bs m)) := by
  have HT := Lib.hid hT; have HR := Lib.hid hR; have HN := Lib.hid hn; clear hT hR hn
  go_enter Tryd.func22, Tryd.ntmps22
  go_wp2_with fail
  refine (once_any 136 31 A bs n c m _ (by omega) (by omega) (by omega) (by omega) HT.out HR.out HN.out hm hk).mono ?_
  rintro e' w1 ⟨h, rfl, h1, h2, h3⟩
  have H2 := Lib.hid h2; have H3 := Lib.hid h3; clear h2 h3
  rw [sponge_len] at H2 ⊢
  go_wp2
  go_ret
  exact ⟨h, by rw [sponge_len]; rfl, h1, by rw [sponge_len]; exact H2.out, H3.out⟩
theorem shake256_bad (A : Option Addr) (bs : List Nat) (n c : Nat) (m : Int) (w : World) (hT : Tables w) (hR : Rd w w.heap.size A bs) (hn : bs.length = n) (hm : n ≤ 9223372036854775807) (hk : m < 0 ∨ 65536 < m) :
    Calls Tryd.prog 22 #[.slice A n c, .int .i64 m] w fun e' w' => e' = .returned (.slice none 0 0) ∧ Below w.heap.size w w' := by
  have HT := Lib.hid hT; have HR := Lib.hid hR; have HN := Lib.hid hn; have HK := Lib.hid hk; clear hT hR hn hk
  go_enter Tryd.func22, Tryd.ntmps22
  go_wp2_with fail
  refine (once_bad 136 31 A bs n c m _ (by omega) (by omega) (by omega) HT.out HR.out HN.out hm HK.out).mono ?_
  rintro e' w1 ⟨rfl, h3⟩
  have H3 := Lib.hid h3; clear h3
  go_wp2
  go_ret
  exact ⟨rfl, H3.out⟩

end Go.Proofs.YtfhibjpkbbbfpaaDoor.Kec
