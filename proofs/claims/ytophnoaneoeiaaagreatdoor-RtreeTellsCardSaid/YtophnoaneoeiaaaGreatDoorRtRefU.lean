/- Walks: the document's Leaves, Resolve and Sum. Written by tools/mk_rttells.py. -/
import Derived.Test.YtophnoaneoeiaaaGreatDoorRtPre
import Derived.Test.YtophnoaneoeiaaaGreatDoorRtSame
import Derived.Test.YtophnoaneoeiaaaGreatDoorRtRefS
import Derived.Test.YtophnoaneoeiaaaGreatDoorShaM3
import Derived.Test.YtophnoaneoeiaaaGreatDoorRtWalkE
namespace Go.Proofs.YtophnoaneoeiaaaGreatDoor.Rt
set_option linter.all false
open Go.RowKit Wr

theorem PrS.below {d : Int} {A : Option Addr} {n c : Nat} {w W W' : World} (x : PrS d A n c w W) (hb : Below W.heap.size W W') : PrS d A n c w W' := ⟨x.tr.below hb x.tr.lt, x.bl.trans (hb.mono x.bl.size)⟩
theorem own_lenI {w : World} {base n : Nat} {v : Value} {xs : List Int} (h : w.ownsRow base 3 1 v n (icells xs)) : xs.length = n := by have := h.1; rw [icells_len] at this; omega
/-- what the document's resolve tells of a spot of a right tree -/
def ResC (d : Nat) (A : Option Addr) (n c : Nat) (ns : List Nd) (l p : Nat) : Prop :=
  ∀ re im w, Sp.Is re im (some (l, p)) → Nodes Any Any w A n c ns → Calls Tryz.prog 44 #[.agg #[.int .i64 d, .slice A n c], .complex .f64 re im] w fun e w' => ∃ C m cc, e = .returned (.slice C m cc) ∧ w'.ownsRow w.heap.size 3 1 (.slice C m cc) m (icells (resF ns l p)) ∧ Below w.heap.size w w'
theorem res_bd {ns : List Nd} {d : Nat} (h : Right ns d) (l p : Nat) (hl : l ≤ d) (hp : p < 2 ^ (d - l)) : (resF ns l p).length ≤ 5000 := by
  have h1 := res_len h l p hl hp
  have hd := h.deep
  have h2 : 2 ^ l ≤ 2 ^ 6 := Nat.pow_le_pow_right (by decide) (by omega)
  have h3 : 2 ^ d ≤ 2 ^ 6 := Nat.pow_le_pow_right (by decide) hd
  have h4 : 2 ^ l * (2 ^ d + 1) ≤ 2 ^ 6 * (2 ^ 6 + 1) := Nat.mul_le_mul h2 (by omega)
  omega
theorem res_zero {ns : List Nd} {l p : Nat} (h : ¬ (nd ns (idx l p)).kind = 0) : resF ns l p = knownF (idx l p) (nd ns (idx l p)) := by
  cases l with
  | zero => rw [resF, if_neg h]
  | succ l => rw [resF, if_neg h]

set_option maxHeartbeats 8000000 in
set_option maxRecDepth 100000 in
theorem refRes_step (d : Nat) (A : Option Addr) (n c : Nat) (ns : List Nd) (l0 p x y : Nat) (w : World) (hS : Sp.Is x y (some (l0, p))) (hN : Nodes Any Any w A n c ns) (hR : Right ns d) (hl : l0 ≤ d) (hp : p < 2 ^ (d - l0))
    (ih1 : ∀ l, l0 = l + 1 → ResC d A n c ns l (2 * p)) (ih2 : ∀ l, l0 = l + 1 → ResC d A n c ns l (2 * p + 1)) :
    Calls Tryz.prog 44 #[.agg #[.int .i64 d, .slice A n c], .complex .f64 x y] w fun e w' => ∃ C m cc, e = .returned (.slice C m cc) ∧ w'.ownsRow w.heap.size 3 1 (.slice C m cc) m (icells (resF ns l0 p)) ∧ Below w.heap.size w w' := by
  obtain ⟨W0, hW0, g1, hB0⟩ := one_new w d A n c
  have B0 := Lib.hid hB0; have G1 := Lib.hid g1; have HN := Lib.hid hN; have HR := Lib.hid hR
  have hd6 := hR.deep
  have HIX := Lib.hid (idx_c hS)
  have hg := g1.lt
  have hi : idx l0 p < n := by have := idx_lt hl hp; rw [← hN.len, hR.len]; exact this
  have hev := idx_even l0 p
  have hul := hR.un_len l0 p hl hp
  have hun : (nd ns (idx l0 p)).un.length ≤ 64 := Nat.le_trans hul (Nat.pow_le_pow_right (by decide) hd6 : 2 ^ d ≤ 2 ^ 6)
  have HLU := Lib.hid (fun x hx => (hR.small l0 p hl hp).each x hx)
  obtain ⟨ad, rfl⟩ := hN.some (by omega)
  have HIS := Lib.hid hS
  have HI1 := Lib.hid ih1; have HI2 := Lib.hid ih2
  have HLP := Lib.hid (And.intro hl hp)
  clear hN hR g1 hB0 hS ih1 ih2 hl hp hul
  obtain ⟨i, hii⟩ : ∃ i, idx l0 p = i := ⟨_, rfl⟩
  have HII := Lib.hid hii
  rw [hii] at HIX hi hev hun HLU
  clear hii
  have hi' : (i : Int) < (n : Int) := by omega
  go_enter Tryz.func44, Tryz.ntmps44
  go_wp2_with fail
  refine (Sp.rindex_c HIX.out _).mono ?_
  rintro e' w1 ⟨rfl, hb1⟩
  have HB1 := Lib.hid (B0.out.trans (hb1.mono B0.out.size)); have G2 := Lib.hid (G1.out.below hb1 hg)
  have hg1 := G2.out.lt
  clear hb1 hW0
  obtain ⟨q, hat, his⟩ := HN.out.at i (by omega)
  obtain ⟨c0, c1, c2, c3, c4, c5⟩ := (hat.of_block (HB1.out.block _ (block_lt_of_cell hat.cells.1))).cells
  obtain ⟨q0, q1⟩ := G2.out.cs
  have HQ := Lib.hid his
  obtain ⟨kq, A1, n1, c1', A2, n2, c2', A3, n3, c3', A4, n4, c4', A5, n5, c5'⟩ := q
  dsimp only at c0 c1 c2 c3 c4 c5
  have hb2 := below_one w1 (.cells (ndc kq A1 n1 c1' A2 n2 c2' A3 n3 c3' A4 n4 c4' A5 n5 c5') 37)
  have hnb := NdB.new (k := kq) (A1 := A1) (n1 := n1) (c1 := c1') (A2 := A2) (n2 := n2) (c2 := c2') (A3 := A3) (n3 := n3) (c3 := c3') (A4 := A4) (n4 := n4) (c4 := c4') (A5 := A5) (n5 := n5) (c5 := c5') w1
  clear hat his
  obtain ⟨w2, hw2⟩ : ∃ w2, w1.alloc (.cells (ndc kq A1 n1 c1' A2 n2 c2' A3 n3 c3' A4 n4 c4' A5 n5 c5') 37) = w2 := ⟨_, rfl⟩
  rw [hw2] at hb2 hnb
  have HNB := Lib.hid hnb; have HB2 := Lib.hid (HB1.out.trans (hb2.mono HB1.out.size)); have G3 := Lib.hid (G2.out.below hb2 hg1)
  obtain ⟨t0, t1, t2, t3, t4, t5⟩ := hnb.cs
  have hs2 : w1.heap.size < w2.heap.size := (Array.getElem?_eq_some_iff.1 hnb).1
  have hs1 : w.heap.size + 1 ≤ w1.heap.size := hg1
  have hkq : kq = (nd ns i).kind := HQ.out.k
  have HKQ := Lib.hid hkq
  clear hb2 hnb hkq
  by_cases hk : kq = 0
  case neg =>
    have yk : (kq != 0) = true := by simp [hk]
    have HRES := Lib.hid (show resF ns l0 p = knownF i (nd ns i) by rw [res_zero (by rw [HII.out, ← HKQ.out]; exact hk), HII.out])
    have HU : Hid (Ints Any w A5 n5 c5' (nd ns i).un) := Lib.hid HQ.out.un
    obtain ⟨un, hunn⟩ : ∃ un, (nd ns i).un = un := ⟨_, rfl⟩
    rw [hunn] at HU hun HLU
    have HKN := Lib.hid (show knownF i (nd ns i) = (i : Int) :: un.map (2 * ·) by unfold knownF; rw [hunn])
    have hn5 : n5 ≤ 64 := by rw [← HU.out.len]; exact hun
    clear hunn hk hun hev
    go_wp2_with fail
    clear q0 q1 c0 c1 c2 c3 c4 c5 t0 t1 t2 t3 t4 t5 hw2
    have hrow := one_int w2 (i : Int)
    have hown0 : (w2.alloc (.cells #[.int .i64 (i : Int)] 3)).ownsRow w2.heap.size 3 1 (.slice (some ⟨w2.heap.size, 0, none⟩) 1 1) 1 (icells [(i : Int)]) :=
      ⟨rfl, .inr ⟨w2.heap.size, 1, _, rfl, Nat.le_refl _, heap_alloc_last w2 _, Nat.le_refl _, by decide, rfl, rfl⟩⟩
    have hb3 := below_one w2 (.cells #[.int .i64 (i : Int)] 3)
    generalize w2.alloc (.cells #[.int .i64 (i : Int)] 3) = w3 at *
    have HO3 := Lib.hid (own_downG hown0 (show w.heap.size ≤ w2.heap.size by omega)); have HB3 := Lib.hid (HB2.out.trans (hb3.mono HB2.out.size)); have HC3 := Lib.hid hb3
    have HN3 := Lib.hid (HNB.out.below hb3 hs2)
    have hs3 : w1.heap.size < w3.heap.size := by have := hb3.size; omega
    have HNE : Hid (∀ b, (Value.slice (some ⟨w2.heap.size, 0, none⟩) 1 1).ownBlock = some b → b ≠ w1.heap.size) := Lib.hid (fun b hb => by have hb' : w2.heap.size = b := Option.some.inj hb; omega)
    clear hrow hown0 hb3
    obtain ⟨gb, hgb⟩ : ∃ g, w2.heap.size = g := ⟨_, rfl⟩
    rw [hgb] at HO3 HNE ⊢
    clear hgb
    go_loopw [7, 8] (fun v u W => ∃ (k : Nat) (C : Option Addr) (cc : Nat), k ≤ n5 ∧ u = .int .i64 k ∧ v = .slice C (k + 1) cc ∧ Hid (W.ownsRow w.heap.size 3 1 (.slice C (k + 1) cc) (k + 1) (icells ((i : Int) :: (un.take k).map (2 * ·)))) ∧ Hid (Below w.heap.size w W) ∧ Hid (NdB kq A1 n1 c1' A2 n2 c2' A3 n3 c3' A4 n4 c4' A5 n5 c5' W w1.heap.size) ∧ Hid (∀ b, (Value.slice C (k + 1) cc).ownBlock = some b → b ≠ w1.heap.size)) (fun v u _ => n5 - (intOf u).toNat)
    case atStart => exact ⟨0, _, 1, by omega, rfl, rfl, HO3, HB3, HN3, HNE⟩
    case round =>
      clear HO3 HB3 HN3 HNE HC3
      obtain ⟨k, C, cc, hk, rfl, rfl, HO, HB, HND, HNE⟩ := hrel
      obtain ⟨t0, t1, t2, t3, t4, t5⟩ := HND.out.cs
      clear t0 t1 t2 t3 t4
      have hwz : w1.heap.size < wr.heap.size := (Array.getElem?_eq_some_iff.1 HND.out).1
      by_cases hkn : k < n5
      · have yk : (k : Int) < (n5 : Int) := by omega
        obtain ⟨au, rfl⟩ := HU.out.some (by omega)
        have hkl : k < un.length := by rw [HU.out.len]; exact hkn
        have hc := (HU.out.below HB.out).cell k hkn
        obtain ⟨hx0, hx1⟩ := HLU.out (gi un k) (gi_mem hkl)
        have HUN := Lib.hid (show (un.take (k + 1)).map (2 * ·) = (un.take k).map (2 * ·) ++ [2 * gi un k] by rw [gi_take un k hkl, List.map_append]; rfl)
        generalize gi un k = x2 at *
        have HX2 := Lib.hid (And.intro hx0 hx1)
        go_wp2_with (first
          | (at_builtin; refine wpList_append_ints rfl (.tmp 28) (.tmp 35) rfl w.heap.size (k + 1) 1 1 _ ((i : Int) :: (un.take k).map (2 * ·)) [2 * x2] (some ⟨wr.heap.size, 0, none⟩) Any rfl rfl (HO.out.alloc _) (one_int wr _) (by omega) (by simp; omega) ?_)
          | go_in)
        intro v' w5 hown hgrow hat
        obtain ⟨C', c', rfl⟩ := own_sliceG hown
        have HB5 := Lib.hid (below_ownG (HB.out.alloc HB.out.size (.cells #[.int .i64 (2 * x2)] 3)) (HO.out.alloc _) (Nat.le_refl _) hgrow)
        have HO5 : Hid (w5.ownsRow w.heap.size 3 1 (.slice C' (k + 1 + 1) c') (k + 1 + 1) (icells ((i : Int) :: (un.take (k + 1)).map (2 * ·)))) := Lib.hid (by rw [HUN.out, List.map_take]; exact hown)
        have HND5 : Hid (NdB kq A1 n1 c1' A2 n2 c2' A3 n3 c3' A4 n4 c4' (some au) n5 c5' w5 w1.heap.size) := Lib.hid ((hgrow.block _ (by simp; omega) fun e => HNE.out _ e.symm rfl).trans (HND.out.below (below_one wr (.cells #[.int .i64 (2 * x2)] 3)) hwz))
        have HNE5 : Hid (∀ b, (Value.slice C' (k + 1 + 1) c').ownBlock = some b → b ≠ w1.heap.size) := Lib.hid (fun b hb => by
          rcases hat with e | e
          · exact HNE.out b (by rw [← e]; exact hb)
          · rw [hb] at e; injection e with e; have := World.size_alloc wr (.cells #[.int .i64 (2 * x2)] 3); omega)
        clear hown hgrow hat
        go_wp2
        go_roundw
        case rel => exact ⟨k + 1, C', c', by omega, by go_num, rfl, HO5, HB5, HND5, HNE5⟩
        case measure => simp [intOf]; omega
      · have yk : ¬ (k : Int) < (n5 : Int) := by omega
        obtain rfl : k = n5 := by omega
        go_wp2
        go_ret
        refine ⟨C, k + 1, cc, rfl, ?_, HB.out⟩
        rw [HRES.out, HKN.out]
        have := HO.out
        rw [List.take_of_length_le (by rw [HU.out.len]; omega)] at this
        exact this
  obtain rfl : kq = 0 := hk
  have HK0 := Lib.hid (show (nd ns (idx l0 p)).kind = 0 by rw [HII.out]; exact HKQ.out.symm)
  cases l0 with
  | zero =>
    have z1 : (i : Int) % 2 = 0 := by rw [Int.tmod_eq_emod_of_nonneg (by omega)] at hev; simpa using hev
    have z2 : ((i : Int) % 2 == 0) = true := by rw [z1]; rfl
    have z3 : (Int.tmod (i : Int) 2 == 0) = true := by rw [hev]; rfl
    clear hev
    go_wp2
    go_ret
    refine ⟨none, 0, 0, rfl, ?_, HB2.out⟩
    rw [resF, if_pos HK0.out]
    exact nil_ints _ _
  | succ l =>
    have z0 : Int.tmod (i : Int) 2 = 1 := by rw [hev, if_neg (by omega)]
    have z1 : (i : Int) % 2 = 1 := by rw [Int.tmod_eq_emod_of_nonneg (by omega)] at z0; exact z0
    have z2 : ((i : Int) % 2 == 0) = false := by rw [z1]; rfl
    have HD1 : Hid (Sp.DnC x y false (Fl.fl l) (Fl.fl (2 * p))) := Lib.hid (down_to HIS.out false)
    have HD2 : Hid (Sp.DnC x y true (Fl.fl l) (Fl.fl (2 * p + 1))) := Lib.hid (down_to HIS.out true)
    have IH1 := Lib.hid (HI1.out l rfl); have IH2 := Lib.hid (HI2.out l rfl)
    unfold ResC at IH1 IH2
    obtain ⟨p1, p2⟩ := half_lt HLP.out.1 HLP.out.2
    have HLB := Lib.hid (And.intro (res_bd HR.out l (2 * p) (by have := HLP.out.1; omega) p1) (res_bd HR.out l (2 * p + 1) (by have := HLP.out.1; omega) p2))
    have HI3 : Hid (Sp.Is (Fl.fl l) (Fl.fl (2 * p)) (some (l, 2 * p))) := Lib.hid (is_spot l (2 * p) (by have := HLP.out.1; omega) (Nat.lt_of_lt_of_le p1 (Nat.pow_le_pow_right (by decide) (show d - l ≤ 16 - l by omega))))
    have HI4 : Hid (Sp.Is (Fl.fl l) (Fl.fl (2 * p + 1)) (some (l, 2 * p + 1))) := Lib.hid (is_spot l (2 * p + 1) (by have := HLP.out.1; omega) (Nat.lt_of_lt_of_le p2 (Nat.pow_le_pow_right (by decide) (show d - l ≤ 16 - l by omega))))
    go_wp2_with fail
    obtain ⟨A, hA⟩ : ∃ A, some ad = A := ⟨_, rfl⟩
    have HSwd12 : Hid (PrS d A n c w w2.drew) := Lib.hid (by rw [← hA]; exact ⟨G3.out, HB2.out.drew⟩)
    rw [hA] at HN IH1 IH2 ⊢
    clear hA hev z0 z1 z2 q0 q1 c0 c1 c2 c3 c4 c5 t0 t1 t2 t3 t4 t5 hw2 HQ G1 G2 G3
    try simp only [Act.put]
    refine Wr.region_calm ?_
    refine wp_region_any (by kernel_rfl) ?_
    change wpAny _ _ _ _ _ _ _ (World.drew w2)
    generalize World.drew w2 = wd12 at *
    refine wpAny_of_held (S := fun W => PrS d A n c w W) _ _ _ _ ?_
    refine wpAnyH_take (i := 0) (v := ?ve9) rfl (by kernel_rfl) (by kernel_rfl) (by kernel_rfl) (fun _ _ _ h => h) (Or.inl ⟨by rfl, ?ye9⟩) HSwd12.out ?re9
    case ye9 => (intro w' hSw; obtain ⟨t0, t1⟩ := hSw.tr.cs; clear hSw; go_simp; try with_reducible rfl)
    simp only [List.getElem_toArray, List.getElem_cons_succ, List.getElem_cons_zero, Act.put, List.setIfInBounds_toArray, List.set_cons_zero, List.set_cons_succ]
    refine wpAnyH_take (i := 1) (v := ?ve10) rfl (by kernel_rfl) (by kernel_rfl) (by kernel_rfl) (fun _ _ _ h => h) (Or.inl ⟨by rfl, ?ye10⟩) HSwd12.out ?re10
    case ye10 => (intro w' hSw; clear hSw; go_simp; try with_reducible rfl)
    simp only [List.getElem_toArray, List.getElem_cons_succ, List.getElem_cons_zero, Act.put, List.setIfInBounds_toArray, List.set_cons_zero, List.set_cons_succ]
    refine wpAnyH_take (i := 4) (v := ?ve11) rfl (by kernel_rfl) (by kernel_rfl) (by kernel_rfl) (fun _ _ _ h => h) (Or.inl ⟨by rfl, ?ye11⟩) HSwd12.out ?re11
    case ye11 => (intro w' hSw; obtain ⟨t0, t1⟩ := hSw.tr.cs; clear hSw; go_simp; try with_reducible rfl)
    simp only [List.getElem_toArray, List.getElem_cons_succ, List.getElem_cons_zero, Act.put, List.setIfInBounds_toArray, List.set_cons_zero, List.set_cons_succ]
    refine wpAnyH_take (i := 5) (v := ?ve12) rfl (by kernel_rfl) (by kernel_rfl) (by kernel_rfl) (fun _ _ _ h => h) (Or.inl ⟨by rfl, ?ye12⟩) HSwd12.out ?re12
    case ye12 => (intro w' hSw; clear hSw; go_simp; try with_reducible rfl)
    simp only [List.getElem_toArray, List.getElem_cons_succ, List.getElem_cons_zero, Act.put, List.setIfInBounds_toArray, List.set_cons_zero, List.set_cons_succ]
    refine wpAnyH_ready (rs := [2]) (by kernel_rfl) (by simp) ?_
    refine AllReadyH.cons rfl (fun K' hK => ?_) AllReadyH.nil
    simp only [List.getElem_toArray, List.getElem_cons_succ, List.getElem_cons_zero]
    go_simp
    refine (Sp.rdown_c HD1.out _).mono ?_
    rintro e' d1 ⟨rfl, hb⟩
    have HSd1 := Lib.hid (HSwd12.out.below hb)
    clear hb
    refine hK.out _ _ HSd1.out (fun _ => ?_)
    clear hK
    try simp only [List.getElem_toArray, List.getElem_cons_succ, List.getElem_cons_zero, Act.put, List.setIfInBounds_toArray, List.set_cons_zero, List.set_cons_succ]
    refine wpAnyH_ready (rs := [3]) (by kernel_rfl) (by simp) ?_
    refine AllReadyH.cons rfl (fun K' hK => ?_) AllReadyH.nil
    simp only [List.getElem_toArray, List.getElem_cons_succ, List.getElem_cons_zero]
    go_simp
    refine (IH1.out _ _ _ HI3.out (HN.out.below HSd1.out.bl)).mono ?_
    rintro e' u1 ⟨X1, m1, x1, rfl, ho, hb⟩
    have HO1 := Lib.hid (own_downG ho (show w.heap.size + 1 ≤ d1.heap.size by have := HSd1.out.tr.lt; omega)); have HSu1 := Lib.hid (HSd1.out.below hb)
    clear ho hb
    refine hK.out _ _ HSu1.out (fun _ => ?_)
    clear hK
    try simp only [List.getElem_toArray, List.getElem_cons_succ, List.getElem_cons_zero, Act.put, List.setIfInBounds_toArray, List.set_cons_zero, List.set_cons_succ]
    refine wpAnyH_ready (rs := [6]) (by kernel_rfl) (by simp) ?_
    refine AllReadyH.cons rfl (fun K' hK => ?_) AllReadyH.nil
    simp only [List.getElem_toArray, List.getElem_cons_succ, List.getElem_cons_zero]
    go_simp
    refine (Sp.rdown_c HD2.out _).mono ?_
    rintro e' d2 ⟨rfl, hb⟩
    have HSd2 := Lib.hid (HSu1.out.below hb); have HO2 := Lib.hid (own_belowG HO1.out hb)
    clear hb
    refine hK.out _ _ HSd2.out (fun _ => ?_)
    clear hK
    try simp only [List.getElem_toArray, List.getElem_cons_succ, List.getElem_cons_zero, Act.put, List.setIfInBounds_toArray, List.set_cons_zero, List.set_cons_succ]
    refine wpAnyH_ready (rs := [7]) (by kernel_rfl) (by simp) ?_
    refine AllReadyH.cons rfl (fun K' hK => ?_) AllReadyH.nil
    simp only [List.getElem_toArray, List.getElem_cons_succ, List.getElem_cons_zero]
    go_simp
    refine (IH2.out _ _ _ HI4.out (HN.out.below HSd2.out.bl)).mono ?_
    rintro e' u2 ⟨X2, m2, x2, rfl, ho, hb⟩
    have HX2 := Lib.hid (Ints.of_own ho).any; have HSu2 := Lib.hid (HSd2.out.below hb); have HO3 := Lib.hid (own_belowG HO2.out hb)
    clear ho hb
    refine hK.out _ _ HSu2.out (fun _ => ?_)
    clear hK
    try simp only [List.getElem_toArray, List.getElem_cons_succ, List.getElem_cons_zero, Act.put, List.setIfInBounds_toArray, List.set_cons_zero, List.set_cons_succ]
    refine wpAnyH_ready (rs := [8]) (by kernel_rfl) (by simp) ?_
    refine AllReadyH.cons rfl (fun K' hK => ?_) AllReadyH.nil
    simp only [List.getElem_toArray, List.getElem_cons_succ, List.getElem_cons_zero]
    rw [if_pos (by rfl)]
    have hl1 := own_lenI HO3.out
    have hl2 := HX2.out.len
    have hlb := HLB.out
    refine wp_append_ints (.tmp 44) (.tmp 48) rfl (w.heap.size + 1) m1 m2 x2 _ (resF ns l (2 * p)) (resF ns l (2 * p + 1)) X2 Any rfl rfl HO3.out HX2.out (by omega) (by have := HSu2.out.tr.lt; omega) ?_
    intro v' v3 hown hgrow hat
    obtain ⟨C3, z3, rfl⟩ := own_sliceG hown
    have HO4 := Lib.hid hown; have HSv3 : Hid (PrS d A n c w v3) := Lib.hid ⟨(hgrow.block _ HSu2.out.tr.lt fun e => by have := (HO3.out.lt _ e.symm).1; omega).trans HSu2.out.tr, below_ownG HSu2.out.bl HO3.out (by omega) hgrow⟩
    clear hown hgrow hat hl1 hl2 hlb
    refine hK.out _ _ HSv3.out (fun _ => ?_)
    clear hK
    try simp only [List.getElem_toArray, List.getElem_cons_succ, List.getElem_cons_zero, Act.put, List.setIfInBounds_toArray, List.set_cons_zero, List.set_cons_succ]
    refine wpAnyH_take (i := 9) (v := ?ve13) rfl (by kernel_rfl) (by kernel_rfl) (by kernel_rfl) (fun _ _ _ h => h) (Or.inl ⟨by rfl, ?ye13⟩) HSv3.out ?re13
    case ye13 => (intro w' hSw; clear hSw; go_simp; try with_reducible rfl)
    simp only [List.getElem_toArray, List.getElem_cons_succ, List.getElem_cons_zero, Act.put, List.setIfInBounds_toArray, List.set_cons_zero, List.set_cons_succ]
    refine wpAnyH_done (by kernel_rfl) ?_ _
    change Exit.then _ _ Exit.normal _ _
    go_wp2
    go_ret
    refine ⟨C3, m1 + m2, z3, rfl, ?_, HSv3.out.bl⟩
    rw [resF, if_pos HK0.out]
    exact own_downG HO4.out (by omega)
theorem refRes_is (d : Nat) (A : Option Addr) (n c : Nat) (ns : List Nd) (hR : Right ns d) : ∀ l p, l ≤ d → p < 2 ^ (d - l) → ResC d A n c ns l p
  | 0, p, hl, hp => fun x y w hS hN => refRes_step d A n c ns 0 p x y w hS hN hR hl hp (fun _ h => by omega) (fun _ h => by omega)
  | l + 1, p, hl, hp => fun x y w hS hN => by
    obtain ⟨p1, p2⟩ := half_lt hl hp
    refine refRes_step d A n c ns (l + 1) p x y w hS hN hR hl hp (fun l' h => ?_) (fun l' h => ?_)
    · obtain rfl : l = l' := by omega
      exact refRes_is d A n c ns hR l (2 * p) (by omega) p1
    · obtain rfl : l = l' := by omega
      exact refRes_is d A n c ns hR l (2 * p + 1) (by omega) p2

end Go.Proofs.YtophnoaneoeiaaaGreatDoor.Rt
