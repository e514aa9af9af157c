/- Walks: put. Written by tools/mk_scwalkb.py. -/
import Derived.Test.YtikafijdfgkgkaaDoorScWalkA
namespace Go.Proofs.YtikafijdfgkgkaaDoor.Sc
set_option linter.all false
open Go.RowKit
open Wr (Txt TxtL Any New bcells gt)

theorem grown_trans {w w1 w2 : World} {r : Option Nat} (h : w.grownBy w1 r) (k : w1.grownBy w2 r) : w.grownBy w2 r :=
  ⟨k.os.trans h.os, k.tape.trans h.tape, k.output.trans h.output, Nat.le_trans h.size k.size, fun i hi hn => (k.block i (Nat.lt_of_lt_of_le hi h.size) hn).trans (h.block i hi hn)⟩
theorem grown_of_below {w w' : World} {r : Option Nat} (h : Below w.heap.size w w') : w.grownBy w' r := ⟨h.os, h.tape, h.output, h.size, fun i hi _ => h.block i hi⟩
theorem grown_setCell (w : World) (b i : Nat) (v : Value) : w.grownBy (w.setCell ⟨b, i, none⟩ v) (some b) :=
  ⟨rfl, rfl, rfl, by simp, fun k hk hn => Go.Deep.blk_setCell_other _ _ _ _ (by intro e; exact hn (by rw [show k = b from e]))⟩
theorem grown_drew {w w' : World} {r : Option Nat} (h : w.grownBy w' r) : w.grownBy w'.drew r := ⟨h.os, h.tape, h.output, h.size, h.block⟩
theorem Tabs.grown {w w' : World} {g : Nat} (h : Tabs w) (hg : w.grownBy w' (some g)) (hb : 3 ≤ g) : Tabs w' := ⟨h.sha.grown hg hb, h.wr.grown hg hb⟩
/-- a text of which no byte lies in a block -/
def Far (g : Nat) (w : World) (A : Option Addr) (n c : Nat) (bs : List Nat) : Prop := Txt Any w A n c bs ∧ ∀ ad, A = some ad → 0 < n → ad.block ≠ g
theorem Far.grown {g n c : Nat} {w w' : World} {A : Option Addr} {bs : List Nat} (h : Far g w A n c bs) (hg : w.grownBy w' (some g)) : Far g w' A n c bs := by
  obtain ⟨⟨h1, h2, h3, h4, h5, h6⟩, hf⟩ := h
  refine ⟨⟨⟨h1.1, fun hn => ?_⟩, h2, h3, h4, h5, h6⟩, hf⟩
  obtain ⟨ad, ha, hlt, hr⟩ := h1.2 hn
  refine ⟨ad, ha, by have := hg.size; omega, fun j hj => ?_⟩
  rw [World.cell?_of_block (hg.block (ad.add j).block (by rw [Wr.add_block]; exact hlt) (by rw [Wr.add_block]; intro e; injection e with e; exact hf ad ha (by omega) e))]
  exact hr j hj
theorem Far.below {g n c : Nat} {w w' : World} {A : Option Addr} {bs : List Nat} (h : Far g w A n c bs) (hb : Below w.heap.size w w') : Far g w' A n c bs := ⟨h.1.below hb, h.2⟩
theorem Far.nil (g : Nat) (w : World) : Far g w none 0 0 [] := ⟨Txt.nil _ _, fun _ e => by cases e⟩
theorem Far.old {g n c : Nat} {w : World} {A : Option Addr} {bs : List Nat} (h : Txt Any w A n c bs) (hg : w.heap.size ≤ g) : Far g w A n c bs :=
  ⟨h, fun ad e hn => by
    obtain ⟨ad', e', hlt, _⟩ := h.1.2 (by rw [h.2.1]; exact hn)
    rw [e] at e'; injection e' with e'; subst e'; omega⟩
theorem Far.new {g n c lo : Nat} {w : World} {A : Option Addr} {bs : List Nat} (h : Txt (New lo w) w A n c bs) (hg : g < lo) : Far g w A n c bs :=
  ⟨h.any, fun ad e _ => by have := (h.2.2.2.2.2 ad e).1; omega⟩
theorem new_grown {g n c lo : Nat} {w w' : World} {A : Option Addr} {bs : List Nat} (h : Txt (New lo w) w A n c bs) (hk : w.grownBy w' (some g)) (hg : g < lo) : Txt (New lo w') w' A n c bs :=
  (h.kept hk.size fun b hb hlt => hk.block b hlt (by intro e; injection e with e; have := hb.1; omega)).mono fun b hb => ⟨hb.1, Nat.lt_of_lt_of_le hb.2 hk.size⟩
set_option maxHeartbeats 1000000 in
theorem short_far (g : Nat) (A : Option Addr) (b : List Nat) (n c : Nat) (w : World) (hT : Tabs w) (hX : Far g w A n c b) (hm : n ≤ 1000000) (hg : g < w.heap.size) :
    Calls Tryd.prog 24 #[.slice A n c] w fun e w' => ∃ A n c, e = .returned (.slice A n c) ∧ Far g w' A n c (sh b) ∧ Below w.heap.size w w' := by
  have hl := hX.1.2.1
  have HT := Lib.hid hT; have HX := Lib.hid hX
  by_cases h : 16000 < n
  · have y1 : (16000 : Int) < (n : Int) := by omega
    rw [sh_yes (by omega)]
    clear hT hX hl
    go_enter Tryd.func24, Tryd.ntmps24
    go_wp2_with fail
    refine (sum_any A b n c _ HT.out HX.out.1 hm).mono ?_
    rintro e' w1 ⟨A1, n1, c1, rfl, hA, hb⟩
    have HA := Lib.hid hA; have HB := Lib.hid hb; clear hA hb
    go_wp2
    go_ret
    exact ⟨_, _, _, rfl, Far.new HA.out hg, HB.out⟩
  · have y1 : ¬ (16000 : Int) < (n : Int) := by omega
    rw [sh_no (by omega)]
    clear hT hX hl
    go_enter Tryd.func24, Tryd.ntmps24
    go_wp2
    go_ret
    exact ⟨_, _, _, rfl, HX.out, Below.refl _ _⟩
set_option maxHeartbeats 1000000 in
theorem rshort_far (g : Nat) (A : Option Addr) (b : List Nat) (n c : Nat) (w : World) (hX : Far g w A n c b) (hm : n ≤ 100000) (hg : g < w.heap.size) :
    Calls Tryd.prog 27 #[.slice A n c] w fun e w' => ∃ A n c, e = .returned (.slice A n c) ∧ Far g w' A n c (sh b) ∧ Below w.heap.size w w' := by
  have hl := hX.1.2.1
  have HX := Lib.hid hX
  by_cases h : 16000 < n
  · have y1 : (16000 : Int) < (n : Int) := by omega
    rw [sh_yes (by omega)]
    clear hX hl
    go_enter Tryd.func27, Tryd.ntmps27
    go_wp2_with fail
    refine (rsum_any A b n c _ HX.out.1 hm).mono ?_
    rintro e' w1 ⟨A1, n1, c1, rfl, hA, hb⟩
    have HA := Lib.hid hA; have HB := Lib.hid hb; clear hA hb
    go_wp2
    go_ret
    exact ⟨_, _, _, rfl, Far.new HA.out hg, HB.out⟩
  · have y1 : ¬ (16000 : Int) < (n : Int) := by omega
    rw [sh_no (by omega)]
    clear hX hl
    go_enter Tryd.func27, Tryd.ntmps27
    go_wp2
    go_ret
    exact ⟨_, _, _, rfl, HX.out, Below.refl _ _⟩
/-- a key's name and place, where they lie -/
def KeyAt (w : World) (B i : Nat) (s : ByteArray) (p : Addr) : Prop := w.cell? ⟨B, i, none⟩ = some (.string s) ∧ w.cell? ⟨B, i + 1, none⟩ = some (.pointer (some p))
theorem KeyAt.grown {w w' : World} {B i : Nat} {p : Addr} {s : ByteArray} {g : Nat} (h : KeyAt w B i s p) (hg : w.grownBy w' (some g)) (hne : B ≠ g) : KeyAt w' B i s p :=
  ⟨hg.cell h.1 (by intro e; injection e with e; exact hne e), hg.cell h.2 (by intro e; injection e with e; exact hne e)⟩
/-- so many keys are put -/
def PutI (w : World) (g o : Nat) (ns : List ByteArray) (key x : List Nat) (f : Nat → Value) (j : Nat) (W : World) : Prop :=
  w.grownBy W (some g) ∧ ∃ f', W.rowIs g 28 7 f' ∧ (∀ i, i < 7 → ¬ (o ≤ i ∧ i < o + j) → f' i = f i) ∧
    ∀ i, i < j → ∃ A n c, f' (o + i) = .slice A n c ∧ Txt (New w.heap.size W) W A n c (lb key (ns.getD i ByteArray.empty) x)

set_option maxHeartbeats 4000000 in
set_option maxRecDepth 100000 in
theorem put_any (K X : Option Addr) (key x : List Nat) (nk ck nx cx o N cap g : Nat) (B : Nat) (ns : List ByteArray) (f : Nat → Value) (w : World) (hT : Tabs w) (hgG : 3 ≤ g)
    (hK : Far g w K nk ck key) (hX : Far g w X nx cx x) (hnk : nk ≤ 100000) (hF : w.rowIs g 28 7 f) (hoN : o + N ≤ 7) (hNc : N ≤ cap) (hc9 : cap ≤ 1000) (hne : B ≠ g)
    (hNm : ∀ j, j < N → KeyAt w B (j * 2) (ns.getD j ByteArray.empty) ⟨g, o + j, none⟩) :
    Calls Tryd.prog 28 #[.slice K nk ck, .slice X nx cx, .slice (some ⟨B, 0, none⟩) N cap] w fun e w' => e = .returned (.tuple #[]) ∧ PutI w g o ns key x f N w' := by
  have HT := Lib.hid hT; have HK := Lib.hid hK; have HX := Lib.hid hX; have HF := Lib.hid hF; have HNm := Lib.hid hNm
  have HG0 := Lib.hid hF.lt
  clear hT hK hX hF hNm
  go_enter Tryd.func28, Tryd.ntmps28
  go_wp2_with fail
  go_loopw [10] (fun i W => ∃ j : Nat, j ≤ N ∧ i = .int .i64 j ∧ Hid (PutI w g o ns key x f j W)) (fun i _ => N - (intOf i).toNat)
  case atStart => exact ⟨0, by omega, rfl, Lib.hid ⟨World.grownBy.refl _ _, f, HF.out, fun _ _ _ => rfl, fun i hi => absurd hi (by omega)⟩⟩
  case round =>
    obtain ⟨j, hj, rfl, HP⟩ := hrel
    by_cases hjN : j < N
    case neg =>
      obtain rfl : j = N := by omega
      have yj : ¬ (j : Int) < (j : Int) := by omega
      go_wp2
      go_end0
      exact ⟨rfl, HP.out⟩
    have yj : (j : Int) < (N : Int) := by omega
    obtain ⟨hg1, f', hf', hold, hnew⟩ := HP.out
    have HW := Lib.hid hg1; have HF' := Lib.hid hf'; have HOLD := Lib.hid hold; have HNEW := Lib.hid hnew
    obtain ⟨s, hs⟩ : ∃ s, ns.getD j ByteArray.empty = s := ⟨_, rfl⟩
    have hk1 := (HNm.out j hjN).grown hg1 hne
    rw [hs] at hk1
    have HSE := Lib.hid hs
    obtain ⟨p0, p1⟩ := hk1
    clear hs
    clear hg1 hf' hold hnew HP
    go_wp2_with fail
    have hlt7 : wr.heap.size ≠ g := by have := HW.out.size; have := HG0.out; omega
    have HB7 := Lib.hid hlt7
    have ba := (Below.refl wr.heap.size wr).alloc (Nat.le_refl _) (.cells #[.string s, .pointer (some ⟨g, o + j, none⟩)] 42)
    have hky : KeyAt (wr.alloc (.cells #[.string s, .pointer (some ⟨g, o + j, none⟩)] 42)) wr.heap.size 0 s ⟨g, o + j, none⟩ :=
      ⟨by rw [cell_of_row _ _ 0 _ _ (0, 0) (heap_alloc_last wr _)]; rfl, by rw [cell_of_row _ _ 1 _ _ (0, 0) (heap_alloc_last wr _)]; rfl⟩
    obtain ⟨b7, hb7⟩ : ∃ b, wr.heap.size = b := ⟨_, rfl⟩
    rw [hb7] at HB7 hky ⊢
    obtain ⟨w2, hw2⟩ : ∃ W, wr.alloc (.cells #[.string s, .pointer (some ⟨g, o + j, none⟩)] 42) = W := ⟨_, rfl⟩
    rw [hw2] at ba hky ⊢
    have HBA : Hid (Below wr.heap.size wr w2.drew) := Lib.hid ba.drew
    have HKY : Hid (KeyAt w2.drew b7 0 s ⟨g, o + j, none⟩) := Lib.hid hky
    have HWd : Hid (w.grownBy w2.drew (some g)) := Lib.hid (grown_trans HW.out (grown_of_below HBA.out))
    have HFd : Hid (w2.drew.rowIs g 28 7 f') := Lib.hid (HF'.out.of_block (HBA.out.block g HF'.out.lt))
    have HKd := Lib.hid (HK.out.grown HWd.out)
    have HXd := Lib.hid (HX.out.grown HWd.out)
    have HSwd : Hid (w2.drew.grownBy w2.drew (some g)) := Lib.hid (World.grownBy.refl _ _)
    clear hw2 ba hky hb7 hlt7 p0 p1 HK HX
    try simp only [Act.put]
    refine Wr.region_calm ?_
    refine wp_region_any (by kernel_rfl) ?_
    change wpAny _ _ _ _ _ _ _ (World.drew w2)
    generalize World.drew w2 = wd at *
    refine wpAny_of_held (S := (fun W => wd.grownBy W (some g))) _ _ _ _ ?_
    refine wpAnyH_take (i := 0) (v := ?ve1) rfl (by kernel_rfl) (by kernel_rfl) (by kernel_rfl) (fun _ _ _ h => h) (Or.inl ⟨by rfl, ?ye1⟩) HSwd.out ?re1
    case ye1 => (intro w' hSw; clear hSw; go_simp; try with_reducible rfl)
    simp only [List.getElem_toArray, List.getElem_cons_succ, List.getElem_cons_zero, Act.put, List.setIfInBounds_toArray, List.set_cons_zero, List.set_cons_succ]
    refine wpAnyH_take (i := 1) (v := ?ve2) rfl (by kernel_rfl) (by kernel_rfl) (by kernel_rfl) (fun _ _ _ h => h) (Or.inl ⟨by rfl, ?ye2⟩) HSwd.out ?re2
    case ye2 => (intro w' hSw; obtain ⟨p0, p1⟩ := (HKY.out.grown hSw HB7.out); clear hSw; go_simp; try with_reducible rfl)
    simp only [List.getElem_toArray, List.getElem_cons_succ, List.getElem_cons_zero, Act.put, List.setIfInBounds_toArray, List.set_cons_zero, List.set_cons_succ]
    refine wpAnyH_take (i := 2) (v := ?ve3) rfl (by kernel_rfl) (by kernel_rfl) (by kernel_rfl) (fun _ _ _ h => h) (Or.inl ⟨by rfl, ?ye3⟩) HSwd.out ?re3
    case ye3 => (intro w' hSw; clear hSw; go_simp; try with_reducible rfl)
    simp only [List.getElem_toArray, List.getElem_cons_succ, List.getElem_cons_zero, Act.put, List.setIfInBounds_toArray, List.set_cons_zero, List.set_cons_succ]
    refine wpAnyH_take (i := 3) (v := ?ve4) rfl (by kernel_rfl) (by kernel_rfl) (by kernel_rfl) (fun _ _ _ h => h) (Or.inl ⟨by rfl, ?ye4⟩) HSwd.out ?re4
    case ye4 => (intro w' hSw; clear hSw; go_simp; try with_reducible rfl)
    simp only [List.getElem_toArray, List.getElem_cons_succ, List.getElem_cons_zero, Act.put, List.setIfInBounds_toArray, List.set_cons_zero, List.set_cons_succ]
    refine wpAnyH_take (i := 4) (v := ?ve5) rfl (by kernel_rfl) (by kernel_rfl) (by kernel_rfl) (fun _ _ _ h => h) (Or.inl ⟨by rfl, ?ye5⟩) HSwd.out ?re5
    case ye5 => (intro w' hSw; obtain ⟨p0, p1⟩ := (HKY.out.grown hSw HB7.out); clear hSw; go_simp; try with_reducible rfl)
    simp only [List.getElem_toArray, List.getElem_cons_succ, List.getElem_cons_zero, Act.put, List.setIfInBounds_toArray, List.set_cons_zero, List.set_cons_succ]
    refine wpAnyH_take (i := 5) (v := ?ve6) rfl (by kernel_rfl) (by kernel_rfl) (by kernel_rfl) (fun _ _ _ h => h) (Or.inl ⟨by rfl, ?ye6⟩) HSwd.out ?re6
    case ye6 => (intro w' hSw; clear hSw; go_simp; try with_reducible rfl)
    simp only [List.getElem_toArray, List.getElem_cons_succ, List.getElem_cons_zero, Act.put, List.setIfInBounds_toArray, List.set_cons_zero, List.set_cons_succ]
    refine wpAnyH_ready (rs := [6]) (by kernel_rfl) (by simp) ?_
    refine AllReadyH.cons rfl (fun K' hK => ?_) AllReadyH.nil
    simp only [List.getElem_toArray, List.getElem_cons_succ, List.getElem_cons_zero]
    go_simp
    refine (label_any s K X key x nk ck nx cx 32 _ (HT.out.grown HWd.out hgG) HKd.out.1 hnk HXd.out.1).mono ?_
    rintro e' u1 ⟨A1, m1, d1, rfl, hX, hb⟩
    have R1 := Lib.hid hX; have HS1 : Hid (wd.grownBy u1 (some g)) := Lib.hid (grown_of_below hb); have B1 := Lib.hid hb
    clear hX hb
    refine hK.out _ _ HS1.out (fun _ => ?_)
    clear hK
    try simp only [List.getElem_toArray, List.getElem_cons_succ, List.getElem_cons_zero, Act.put, List.setIfInBounds_toArray, List.set_cons_zero, List.set_cons_succ]
    refine wpAnyH_take (i := 7) (v := ?ve7) rfl (by kernel_rfl) (by kernel_rfl) (by kernel_rfl) (fun _ _ _ h => h) (Or.inl ⟨by rfl, ?ye7⟩) HS1.out ?re7
    case ye7 => (intro w' hSw; clear hSw; go_simp; try with_reducible rfl)
    simp only [List.getElem_toArray, List.getElem_cons_succ, List.getElem_cons_zero, Act.put, List.setIfInBounds_toArray, List.set_cons_zero, List.set_cons_succ]
    refine wpAnyH_ready (rs := [8]) (by kernel_rfl) (by simp) ?_
    refine AllReadyH.cons rfl (fun K' hK => ?_) AllReadyH.nil
    simp only [List.getElem_toArray, List.getElem_cons_succ, List.getElem_cons_zero]
    have c0 := (HFd.out.of_block (B1.out.block g HFd.out.lt)).cell (i := o + j) (by omega)
    have f0 := (HFd.out.of_block (B1.out.block g HFd.out.lt)).frozen (o + j)
    go_simp
    have HR2 := Lib.hid ((HFd.out.of_block (B1.out.block g HFd.out.lt)).set (o + j) (.slice A1 m1 d1))
    have HS2 : Hid (wd.grownBy (u1.setCell ⟨g, o + j, none⟩ (.slice A1 m1 d1)) (some g)) := Lib.hid (grown_trans HS1.out (grown_setCell _ _ _ _))
    refine hK.out _ _ HS2.out (fun _ => ?_)
    clear hK
    try simp only [List.getElem_toArray, List.getElem_cons_succ, List.getElem_cons_zero, Act.put, List.setIfInBounds_toArray, List.set_cons_zero, List.set_cons_succ]
    refine wpAnyH_done (by kernel_rfl) ?_ _
    change Exit.inBlock 1 _ Exit.normal _ _
    obtain ⟨w5, hw5⟩ : ∃ W, u1.setCell ⟨g, o + j, none⟩ (.slice A1 m1 d1) = W := ⟨_, rfl⟩
    rw [hw5] at HR2 HS2 ⊢
    have HU5 : Hid (u1.grownBy w5 (some g)) := Lib.hid (by rw [← hw5]; exact grown_setCell _ _ _ _)
    clear hw5 c0 f0
    go_wp2
    go_roundw
    case rel =>
      refine ⟨j + 1, by omega, by go_num, Lib.hid ⟨grown_trans HWd.out HS2.out, _, HR2.out, fun i hi hn => ?_, fun i hi => ?_⟩⟩
      · show (if i = o + j then _ else f' i) = f i
        rw [if_neg (by omega)]
        exact HOLD.out i hi (by omega)
      · show ∃ A n c, (if o + i = o + j then Value.slice A1 m1 d1 else f' (o + i)) = .slice A n c ∧ _
        by_cases e : i = j
        · subst e
          rw [if_pos rfl, HSE.out]
          refine ⟨A1, m1, d1, rfl, ?_⟩
          have h1 := HWd.out.size
          have h2 := HG0.out
          have h3 := HU5.out.size
          refine (R1.out.kept h3 fun b hb hlt => HU5.out.block b hlt (by intro e; injection e with e; have := hb.1; omega)).mono fun b hb => ⟨by have := hb.1; omega, by have := hb.2; omega⟩
        · rw [if_neg (by omega)]
          obtain ⟨A, n, c, e1, hX⟩ := HNEW.out i (by omega)
          have h4 := (grown_trans (grown_of_below (r := some g) HBA.out) HS2.out)
          have h2 := HG0.out
          exact ⟨A, n, c, e1, (hX.kept h4.size fun b hb hlt => h4.block b hlt (by intro e; injection e with e; have := hb.1; omega)).mono fun b hb => ⟨hb.1, by have := hb.2; have := h4.size; omega⟩⟩
    case measure => simp [intOf]; omega
end Go.Proofs.YtikafijdfgkgkaaDoor.Sc
