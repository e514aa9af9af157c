/- Walks: Open. Written by tools/mk_bxopen.py. -/
import Derived.Test.YtfhibjpkbbbfpaaDoorBxWalkF
namespace Go.Proofs.YtfhibjpkbbbfpaaDoor.Bx
set_option linter.all false
open Go.RowKit Wr

/-- what Open tells of bytes that are long enough, with a key of thirty-two: its last thirty-two are the tag -/
def openQ (key ahead closed : List Nat) : List Nat × Nat :=
  if closed.drop (closed.length - 32) = tg (kT key) ahead (closed.take (closed.length - 32)) then (hide (kS key) (closed.take (closed.length - 32)), 0) else ([], 121)

set_option maxHeartbeats 2000000 in
set_option maxRecDepth 100000 in
theorem open_bad (K A D : Option Addr) (nk ck na ca L cd : Nat) (w : World) (h : ¬ nk = 32 ∨ 32768 < na ∨ 32800 < L ∨ L < 32) :
    Calls Tryd.prog 10 #[.slice K nk ck, .slice A na ca, .slice D L cd] w fun e w' => e = .returned (.tuple #[.slice none 0 0, .int .i64 (if nk = 32 then if 32768 < na ∨ 32800 < L then 2 else 121 else 1)]) ∧ Below w.heap.size w w' := by
  by_cases h1 : nk = 32
  · subst h1
    by_cases h2 : 32768 < na
    · have y2 : (32768 : Int) < (na : Int) := by omega
      rw [if_pos rfl, if_pos (.inl h2)]
      go_enter Tryd.func10, Tryd.ntmps10
      go_wp2
      go_ret2
      exact ⟨rfl, Below.refl _ _⟩
    · have y2 : ¬ (32768 : Int) < (na : Int) := by omega
      by_cases h3 : 32800 < L
      · have y3 : (32800 : Int) < (L : Int) := by omega
        rw [if_pos rfl, if_pos (.inr h3)]
        go_enter Tryd.func10, Tryd.ntmps10
        go_wp2
        go_ret2
        exact ⟨rfl, Below.refl _ _⟩
      · have y3 : ¬ (32800 : Int) < (L : Int) := by omega
        rw [if_pos rfl, if_neg (by omega)]
        have y4 : (L : Int) < 32 := by omega
        clear h h2 h3
        go_enter Tryd.func10, Tryd.ntmps10
        go_wp2
        go_ret2
        exact ⟨rfl, Below.refl _ _⟩
  · have y1 : ((nk : Int) != 32) = true := by rw [bne_iff_ne]; omega
    rw [if_neg h1]
    go_enter Tryd.func10, Tryd.ntmps10
    go_wp2
    go_ret2
    exact ⟨rfl, Below.refl _ _⟩

set_option maxHeartbeats 4000000 in
set_option maxRecDepth 100000 in
theorem open_ok (K D : Option Addr) (A : Option Addr) (key ahead closed : List Nat) (ck na ca L cd : Nat) (w : World) (hT : Tabs w) (hK : Txt Any w K 32 ck key) (hA : Txt Any w A na ca ahead) (hD : Txt Any w D L cd closed) (hma : na ≤ 32768) (hmb : L ≤ 32800) (hL : 32 ≤ L)
    (r : List Nat × Nat) (hr : Hid (openQ key ahead closed = r)) :
    Calls Tryd.prog 10 #[.slice K 32 ck, .slice A na ca, .slice D L cd] w (ToldE r w) := by
  have hlt := hT.lt
  obtain ⟨ad, rfl⟩ := hD.some (by omega)
  obtain ⟨m, hm⟩ : ∃ m, L - 32 = m := ⟨_, rfl⟩
  have hLm : m + 32 = L := by omega
  obtain ⟨x, hx⟩ : ∃ x, closed.drop m = x := ⟨_, rfl⟩
  obtain ⟨b, hb⟩ : ∃ b, closed.take m = b := ⟨_, rfl⟩
  have HR : Hid ((if x = tg (kT key) ahead b then (hide (kS key) b, 0) else ([], 121)) = r) := Lib.hid (by rw [← hr.out, ← hx, ← hb]; unfold openQ; rw [hD.len, hm])
  have hcL := hD.2.2.1
  have hc63 := hD.2.2.2.1
  have HX : Hid (Txt Any w (some (ad.add m)) 32 32 x) := Lib.hid (by have := txt_back hD m (by omega); rw [hx, show L - m = 32 by omega] at this; exact this)
  have HBm : Hid (Txt Any w (some ad) m m b) := Lib.hid (by have := txt_front hD m (by omega); rw [hb] at this; exact this)
  have HT := Lib.hid hT; have HK := Lib.hid hK; have HA := Lib.hid hA
  have x1 : (L : Int) - 32 = (m : Int) := by omega
  have y2 : ¬ (32768 : Int) < (na : Int) := by omega
  have y3 : ¬ (32800 : Int) < (L : Int) := by omega
  have y4 : ¬ (L : Int) < 32 := by omega
  have hwm : IntKind.i64.wrap (m : Int) = (m : Int) := by rw [IntKind.wrap_i64]; omega
  clear hD hx hb hT hK hA hm hr
  go_enter Tryd.func10, Tryd.ntmps10
  go_wp2_with fail
  refine (keysOf_any K key 32 ck w HT.out HK.out (by omega)).mono ?_
  rintro e' w1 ⟨A1, c1, A2, c2, rfl, hX1, hX2, hB1⟩
  have HX1 := Lib.hid hX1.any; have HX2 := Lib.hid hX2.any; have HB1 := Lib.hid hB1; clear hX1 hX2 hB1
  have HG2 : Hid (KeysIn w1.heap.size A1 c1 A2 c2 (w1.alloc (.cells #[.slice A1 32 c1, .slice A2 32 c2] 33))) := Lib.hid (heap_alloc_last w1 _)
  have HB2 := Lib.hid (HB1.out.alloc HB1.out.size (.cells #[.slice A1 32 c1, .slice A2 32 c2] 33))
  have HD2 := Lib.hid ((Below.refl w1.heap.size w1).alloc (Nat.le_refl _) (.cells #[.slice A1 32 c1, .slice A2 32 c2] 33))
  go_wp2_with fail
  obtain ⟨w2, hw2⟩ : ∃ w2, w1.alloc (.cells #[.slice A1 32 c1, .slice A2 32 c2] 33) = w2 := ⟨_, rfl⟩
  rw [hw2] at HG2 HB2 HD2
  rw [hw2]
  clear hw2
  have HX2' := Lib.hid (HX2.out.below HD2.out); have HX1' := Lib.hid (HX1.out.below HD2.out)
  clear HX1 HX2 HD2 HB1
  refine (cutBehind_any ad L cd m w2 (by omega) hcL).mono ?_
  rintro e' w3 ⟨rfl, k3, hw3⟩
  rw [show L - m = 32 by omega]
  have hB3 : Below w2.heap.size w2 w3 := by rw [hw3]; exact ⟨rfl, rfl, rfl, Nat.le_refl _, fun _ _ => rfl⟩
  have HG3 := Lib.hid (HG2.out.below hB3); have HX13 := Lib.hid (HX1'.out.below hB3); have HX23 := Lib.hid (HX2'.out.below hB3)
  have HB3 := Lib.hid (HB2.out.trans (hB3.mono HB2.out.size))
  clear hB3 hw3 HG2 HX1' HX2' HB2
  go_wp2
  refine region_calm ?_
  refine wp_region_any (by kernel_rfl) ?_
  change wpAny _ _ _ _ _ _ _ (World.drew w3)
  replace HG3 := Lib.hid (show KeysIn w1.heap.size A1 c1 A2 c2 w3.drew from HG3.out)
  replace HX13 := Lib.hid HX13.out.drew; replace HX23 := Lib.hid HX23.out.drew; replace HB3 := Lib.hid HB3.out.drew
  generalize w3.drew = wd at *
  have HXd := Lib.hid (HX.out.below HB3.out)
  have HXN := Lib.hid HXd.out.len
  refine wpAny_of_held (S := fun w' => KeysIn w1.heap.size A1 c1 A2 c2 w' ∧ (loadVar 37 (ad.add m)).run Tryd.prog w' = .ok (.agg (bcells x).toArray) w') _ _ _ _ ?_
  have HS0 : Hid (KeysIn w1.heap.size A1 c1 A2 c2 wd ∧ (loadVar 37 (ad.add m)).run Tryd.prog wd = .ok (.agg (bcells x).toArray) wd) := Lib.hid ⟨HG3.out, load_tag HXd.out rfl HXN.out⟩
  have hat : ∀ w, (Instr.arrayAt 37 (.slice (some (ad.add m)) 32 32)).run Tryd.prog w = .ok (.pointer (some (ad.add m))) w := fun w => run_arrayAt w _ _ 32 _ 32 32 Tryd.underlying37 (by omega)
  refine wpAnyH_take (i := 0) (v := ?v0) rfl (by kernel_rfl) (by kernel_rfl) (by kernel_rfl) (fun _ _ _ h => h) (Or.inl ⟨by rfl, ?y0⟩) HS0.out ?r0
  case y0 => (intro w' hSw; have q0 := hSw.1.cell0; have q1 := hSw.1.cell1; clear hSw; go_simp; try with_reducible rfl)
  simp only [List.getElem_toArray, List.getElem_cons_succ, List.getElem_cons_zero, Act.put, List.setIfInBounds_toArray, List.set_cons_zero, List.set_cons_succ]
  refine wpAnyH_take (i := 1) (v := ?v1) rfl (by kernel_rfl) (by kernel_rfl) (by kernel_rfl) (fun _ _ _ h => h) (Or.inl ⟨by rfl, ?y1⟩) HS0.out ?r1
  case y1 => (intro w' hSw; clear hSw; go_simp; try with_reducible rfl)
  simp only [List.getElem_toArray, List.getElem_cons_succ, List.getElem_cons_zero, Act.put, List.setIfInBounds_toArray, List.set_cons_zero, List.set_cons_succ]
  refine wpAnyH_take (i := 2) (v := ?v2) rfl (by kernel_rfl) (by kernel_rfl) (by kernel_rfl) (fun _ _ _ h => h) (Or.inl ⟨by rfl, ?y2⟩) HS0.out ?r2
  case y2 => (intro w' hSw; clear hSw; go_simp; try with_reducible rfl)
  simp only [List.getElem_toArray, List.getElem_cons_succ, List.getElem_cons_zero, Act.put, List.setIfInBounds_toArray, List.set_cons_zero, List.set_cons_succ]
  clear hat
  refine wpAnyH_take (i := 3) (v := .agg (bcells x).toArray) rfl (by kernel_rfl) (by kernel_rfl) (by kernel_rfl) (fun _ _ _ h => h) (Or.inl ⟨by rfl, ?y3⟩) HS0.out ?r3
  case y3 => (intro w' hSw; exact exec_load_run 37 (.tmp 37) (by rfl) (ad.add m) _ (by rfl) hSw.2)
  simp only [List.getElem_toArray, List.getElem_cons_succ, List.getElem_cons_zero, Act.put, List.setIfInBounds_toArray, List.set_cons_zero, List.set_cons_succ]
  refine wpAnyH_take (i := 4) (v := ?v4) rfl (by kernel_rfl) (by kernel_rfl) (by kernel_rfl) (fun _ _ _ h => h) (Or.inl ⟨by rfl, ?y4⟩) HS0.out ?r4
  case y4 => (intro w' hSw; clear hSw; go_simp; try with_reducible rfl)
  simp only [List.getElem_toArray, List.getElem_cons_succ, List.getElem_cons_zero, Act.put, List.setIfInBounds_toArray, List.set_cons_zero, List.set_cons_succ]
  refine wpAnyH_take (i := 5) (v := ?v5) rfl (by kernel_rfl) (by kernel_rfl) (by kernel_rfl) (fun _ _ _ h => h) (Or.inl ⟨by rfl, ?y5⟩) HS0.out ?r5
  case y5 => (intro w' hSw; clear hSw; go_simp; try with_reducible rfl)
  simp only [List.getElem_toArray, List.getElem_cons_succ, List.getElem_cons_zero, Act.put, List.setIfInBounds_toArray, List.set_cons_zero, List.set_cons_succ]
  refine wpAnyH_ready (rs := [6]) (by kernel_rfl) (by simp) ?_
  refine AllReadyH.cons rfl (fun K' hK => ?_) AllReadyH.nil
  simp only [List.getElem_toArray, List.getElem_cons_succ, List.getElem_cons_zero]
  go_simp
  refine (isTag_any A1 A2 c1 c2 (kT key) ahead b x A (some ad) na ca m m wd (HT.out.below HB3.out hlt) HX23.out (HA.out.below HB3.out) (HBm.out.below HB3.out) hma (by omega) HXN.out HXd.out.lt).mono ?_
  rintro e' w4 ⟨rfl, hB4⟩
  have HB4 := Lib.hid (HB3.out.trans (hB4.mono HB3.out.size))
  have HG4 := Lib.hid (HG3.out.below hB4); have HX14 := Lib.hid (HX13.out.below hB4); have HXd4 := Lib.hid (HXd.out.below hB4)
  have HS4 : Hid (KeysIn w1.heap.size A1 c1 A2 c2 w4 ∧ (loadVar 37 (ad.add m)).run Tryd.prog w4 = .ok (.agg (bcells x).toArray) w4) := Lib.hid ⟨HG4.out, load_tag HXd4.out rfl HXN.out⟩
  clear hB4 HG3 HX13 HX23 HS0
  refine hK.out _ _ HS4.out (fun _ => ?_)
  clear hK
  try simp only [List.getElem_toArray, List.getElem_cons_succ, List.getElem_cons_zero, Act.put, List.setIfInBounds_toArray, List.set_cons_zero, List.set_cons_succ]
  refine wpAnyH_take (i := 7) (v := ?v7) rfl (by kernel_rfl) (by kernel_rfl) (by kernel_rfl) (fun _ _ _ h => h) (Or.inl ⟨by rfl, ?y7⟩) HS4.out ?r7
  case y7 => (intro w' hSw; clear hSw; go_simp; try with_reducible rfl)
  simp only [List.getElem_toArray, List.getElem_cons_succ, List.getElem_cons_zero, Act.put, List.setIfInBounds_toArray, List.set_cons_zero, List.set_cons_succ]
  refine wpAnyH_done (by kernel_rfl) ?_ _
  change Exit.then _ _ Exit.normal _ _
  clear HS4
  by_cases hq : x = tg (kT key) ahead b
  · have HR2 : Hid ((hide (kS key) b, 0) = r) := Lib.hid (by rw [← HR.out, if_pos hq])
    rw [decide_eq_true hq]
    clear hq
    have q0 := HG4.out.cell0
    have q1 := HG4.out.cell1
    go_wp2_with fail
    refine (crossed_any A1 A2 c1 c2 (kS key) (kT key) b (some ad) m m w4 (HT.out.below HB4.out hlt) HX14.out (HBm.out.below HB4.out) (by omega)).mono ?_
    rintro e' w5 ⟨A5, n5, c5, rfl, hX5, hB5⟩
    have HX5 := Lib.hid (hX5.mono (New.mono HB4.out.size)); have HB5 := Lib.hid (HB4.out.trans (hB5.mono HB4.out.size)); clear hX5 hB5 q0 q1
    go_wp2
    go_ret2
    rw [← HR2.out]
    exact ⟨_, _, _, rfl, HX5.out, HB5.out⟩
  · have HR2 : Hid (([], 121) = r) := Lib.hid (by rw [← HR.out, if_neg hq])
    rw [decide_eq_false hq]
    clear hq
    go_wp2
    go_ret2
    rw [← HR2.out]
    exact ⟨_, _, _, rfl, Txt.nil _ _, HB4.out⟩
end Go.Proofs.YtfhibjpkbbbfpaaDoor.Bx
