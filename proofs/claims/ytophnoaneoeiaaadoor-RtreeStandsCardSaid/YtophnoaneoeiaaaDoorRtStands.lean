/- RtreeStands: the walk. Written by tools/mk_rtstands.py. -/
import Derived.Test.YtophnoaneoeiaaaDoorRtStandsP
import Derived.Test.YtophnoaneoeiaaaDoorRtRefS
import Derived.Test.YtophnoaneoeiaaaDoorRtM1
import Derived.Test.YtophnoaneoeiaaaDoorRtGreat
namespace Go.Proofs.YtophnoaneoeiaaaDoor.Rt
set_option linter.all false
open Go.RowKit
open Wr (Txt Any New)

/-- a tree's two cells and one of a row of numbers -/
def StI (d : Int) (A : Option Addr) (n c : Nat) (aa : Addr) (k : Nat) (a : Int) (g : Nat) (W : World) : Prop := TrB d A n c W g ∧ W.cell? (aa.add k) = some (.int .i64 a)
theorem StI.cs {d : Int} {A : Option Addr} {n c : Nat} {aa : Addr} {k : Nat} {a : Int} {g : Nat} {W : World} (h : StI d A n c aa k a g W) : W.cell? ⟨g, 0, none⟩ = some (.int .i64 d) ∧ W.cell? ⟨g, 1, none⟩ = some (.slice A n c) ∧ W.cell? (aa.add k) = some (.int .i64 a) := ⟨h.1.cs.1, h.1.cs.2, h.2⟩
theorem StI.below {d : Int} {A : Option Addr} {n c : Nat} {aa : Addr} {k : Nat} {a : Int} {g : Nat} {W W' : World} (h : StI d A n c aa k a g W) (hb : Below W.heap.size W W') : StI d A n c aa k a g W' :=
  ⟨h.1.below hb h.1.lt, (World.cell?_of_block (hb.block _ (block_lt_of_cell h.2))).trans h.2⟩
def StJ (d : Int) (A : Option Addr) (n c : Nat) (aa : Addr) (k : Nat) (a : Int) (ad : Addr) (q : NdQ) (g : Nat) (W : World) : Prop := StI d A n c aa k a g W ∧ NdAt W ad q
theorem StJ.below {d : Int} {A : Option Addr} {n c : Nat} {aa : Addr} {k : Nat} {a : Int} {ad : Addr} {q : NdQ} {g : Nat} {W W' : World} (h : StJ d A n c aa k a ad q g W) (hb : Below W.heap.size W W') : StJ d A n c aa k a ad q g W' :=
  ⟨h.1.below hb, h.2.of_block (hb.block _ (block_lt_of_cell h.2.cells.1))⟩
theorem take_all {l : List Int} {k : Nat} (h : l.length = k) : l.take k = l := List.take_of_length_le (by omega)
theorem count_one (f : Int → Bool) (l : List Int) (k : Nat) (h : k < l.length) : (l.take (k + 1)).countP f = (l.take k).countP f + if f (gi l k) then 1 else 0 := by
  rw [gi_take l k h, List.countP_append, List.countP_cons, List.countP_nil]; simp

set_option maxHeartbeats 8000000 in
set_option maxRecDepth 100000 in
theorem rtreeStands_walk (D : Int) (A : Option Addr) (n c : Nat) (ns : List Nd) (lv pl : Int) (w : World) (hT : Tabs w) (hN : Nodes Any Any w A n c ns) (w1 : (Lit.int .u8 lv).wf = true) (w2 : (Lit.int .u8 pl).wf = true) :
    Calls Tryd.prog 3 #[.agg #[.int .i64 D, .slice A n c], .int .u8 lv, .int .u8 pl] w fun e w' => e = .returned (.bool true) ∧ Below w.heap.size w w' := by
  obtain ⟨W0, hW0, g1, hB0⟩ := one_new w D A n c
  have HT := Lib.hid hT; have HN := Lib.hid hN; have B0 := Lib.hid hB0; have G1 := Lib.hid g1
  have hg := g1.lt
  obtain ⟨lvn, rfl, hlv⟩ : ∃ k : Nat, lv = k ∧ k < 256 := by
    simp [Lit.wf, IntKind.min, IntKind.max, IntKind.bits, IntKind.signed] at w1
    exact ⟨lv.toNat, by omega, by omega⟩
  obtain ⟨pln, rfl, hpl⟩ : ∃ k : Nat, pl = k ∧ k < 256 := by
    simp [Lit.wf, IntKind.min, IntKind.max, IntKind.bits, IntKind.signed] at w2
    exact ⟨pl.toNat, by omega, by omega⟩
  obtain ⟨q0, q1⟩ := g1.cs
  clear hT hN g1 hB0 w1 w2
  go_enter Tryd.func3, Tryd.ntmps3
  go_wp2_with fail
  refine (head_true _ (HT.out.below B0.out)).mono ?_
  rintro e' w1 ⟨rfl, hb1⟩
  have HB1 := Lib.hid (B0.out.trans (hb1.mono B0.out.size)); have HC1 := Lib.hid hb1
  clear hb1 q0 q1
  obtain ⟨q0, q1⟩ := (G1.out.below HC1.out hg).cs
  go_wp2_with fail
  refine (great_any D A n c ns _ (HN.out.below HB1.out)).mono ?_
  rintro e' w2 ⟨⟨b, rfl⟩, hb2⟩
  have HB2 := Lib.hid (HB1.out.trans (hb2.mono HB1.out.size)); have HC2 := Lib.hid (HC1.out.trans (hb2.mono HC1.out.size))
  clear hb2 q0 q1
  obtain ⟨q0, q1⟩ := (G1.out.below HC2.out hg).cs
  cases b
  case true =>
    go_wp2
    go_ret
    exact ⟨rfl, HB2.out⟩
  by_cases hr : RightT D ns
  case neg =>
    go_wp2_with fail
    refine (refRight_is D A n c ns false _ (HN.out.below HB2.out) (by simp [hr])).mono ?_
    rintro e' w3 ⟨rfl, hb3⟩
    have HB3 := Lib.hid (HB2.out.trans (hb3.mono HB2.out.size))
    clear hb3 q0 q1
    go_wp2
    go_ret
    exact ⟨rfl, HB3.out⟩
  obtain ⟨d, rfl, hR⟩ := hr
  have hd6 := hR.deep
  have hd16 : d ≤ 16 := by omega
  have HR := Lib.hid hR
  go_wp2_with fail
  refine (refRight_is d A n c ns true _ (HN.out.below HB2.out) (by simp; exact ⟨d, rfl, hR⟩)).mono ?_
  rintro e' w3 ⟨rfl, hb3⟩
  have HB3 := Lib.hid (HB2.out.trans (hb3.mono HB2.out.size)); have HC3 := Lib.hid (HC2.out.trans (hb3.mono HC2.out.size))
  clear hb3 q0 q1 hR
  obtain ⟨q0, q1⟩ := (G1.out.below HC3.out hg).cs
  obtain ⟨l, hl⟩ : ∃ l, lvn % (d + 1) = l := ⟨_, rfl⟩
  have hld : l ≤ d := by have := Nat.mod_lt lvn (show 0 < d + 1 by omega); omega
  have y1 : (lvn : Int) % ((d : Int) + 1) = (l : Int) := by rw [← hl]; rfl
  have y2 : Int.tmod (lvn : Int) ((d : Int) + 1) = (l : Int) := by rw [Int.tmod_eq_emod_of_nonneg (by omega)]; exact y1
  obtain ⟨r, hr⟩ : ∃ r, d - l = r := ⟨_, rfl⟩
  have hr16 : r ≤ 16 := by omega
  have y3 : (d : Int) - (l : Int) = (r : Int) := by omega
  obtain ⟨mr, hmr⟩ : ∃ mr, 2 ^ r = mr := ⟨_, rfl⟩
  have y4 : (2 : Int) ^ r = (mr : Int) := by rw [← hmr]; simp
  have y5 : 1 ≤ mr ∧ mr ≤ 65536 := by rw [← hmr]; exact pow_bd r hr16
  have y5a := y5.1; have y5b := y5.2
  have y6 : IntKind.i64.wrap (mr : Int) = mr := by rw [IntKind.wrap_i64]; omega
  obtain ⟨p, hp⟩ : ∃ p, pln % mr = p := ⟨_, rfl⟩
  have hpd : p < 2 ^ (d - l) := by rw [hr, hmr, ← hp]; exact Nat.mod_lt _ (by omega)
  have hpm : p < mr := by rw [← hp]; exact Nat.mod_lt _ (by omega)
  have y7 : (pln : Int) % (mr : Int) = (p : Int) := by rw [← hp]; rfl
  have y8 : Int.tmod (pln : Int) (mr : Int) = (p : Int) := by rw [Int.tmod_eq_emod_of_nonneg (by omega)]; exact y7
  have n1 := Sp.nearest_is l
  have n2 := Sp.nearest_is p
  have HS := is_spot l p (by omega) (Nat.lt_of_lt_of_le hpd (Nat.pow_le_pow_right (by decide) (show d - l ≤ 16 - l by omega)))
  obtain ⟨x, hx⟩ : ∃ x, Fl.fl l = x := ⟨_, rfl⟩
  obtain ⟨y, hy⟩ : ∃ y, Fl.fl p = y := ⟨_, rfl⟩
  rw [hx] at n1 HS
  rw [hy] at n2 HS
  have HIS := Lib.hid HS
  have HP := Lib.hid hpd
  have y9 : ((d : Int) + 1 == 0) = false := by simp; omega
  have y9' : ((mr : Int) == 0) = false := by simp; omega
  have CR := Lib.hid fun W => resolve_any d A n c ns x y (some (l, p)) W
  have CL := Lib.hid fun W => leaves_any d A n c ns W
  rw [leavesT_yes HR.out] at CL
  rw [resT_yes HR.out hld hpd] at CR
  clear hl hr hmr hp hx hy HS hpd y5
  go_wp2_with fail
  refine (CR.out _ (HN.out.below HB3.out) (HT.out.below HB3.out).sp HIS.out).mono ?_
  rintro e' w4 ⟨Ar, nr, cr, rfl, hi4, hb4⟩
  have HB4 := Lib.hid (HB3.out.trans (hb4.mono HB3.out.size)); have HC4 := Lib.hid (HC3.out.trans (hb4.mono HC3.out.size))
  have HI4 := Lib.hid hi4.any
  clear hb4 hi4 q0 q1 y1 y2 y3 y4 y6 y7 y8 n1 n2 y9 y9' hlv hpl y5a y5b hpm
  obtain ⟨q0, q1⟩ := (G1.out.below HC4.out hg).cs
  go_wp2_with fail
  refine (CL.out _ (HN.out.below HB4.out) (HT.out.below HB4.out).sp).mono ?_
  rintro e' w5 ⟨Al, nl, cl, rfl, hi5, hb5⟩
  have HB5 := Lib.hid (HB4.out.trans (hb5.mono HB4.out.size)); have HC5 := Lib.hid (HC4.out.trans (hb5.mono HC4.out.size))
  have HI5 := Lib.hid hi5.any
  have HI4' := Lib.hid (HI4.out.below hb5)
  have hn4 : nr ≤ 9223372036854775807 := by have a1 := HI4.out.2.1; have a2 := HI4.out.2.2.1; omega
  have hn5 : nl ≤ 9223372036854775807 := by have a1 := hi5.2.1; have a2 := hi5.2.2.1; omega
  have hnn : n ≤ 9223372036854775807 := by have a1 := HN.out.2.1; have a2 := HN.out.2.2.1; omega
  clear hb5 hi5 q0 q1 HI4 CR CL
  obtain ⟨m, hm⟩ : ∃ m, 2 ^ d = m := ⟨_, rfl⟩
  have HM := Lib.hid hm
  have x1 : (2 : Int) ^ d = (m : Int) := by rw [← hm]; simp
  have x2 : m ≤ 65536 := by rw [← hm]; exact (pow_bd d hd16).2
  have x3 : IntKind.i64.wrap (m : Int) = m := by rw [IntKind.wrap_i64]; omega
  clear hm
  obtain ⟨RS, hRS⟩ : ∃ RS, resF ns l p = RS := ⟨_, rfl⟩
  obtain ⟨LF, hLF⟩ : ∃ LF, leavesF ns d = LF := ⟨_, rfl⟩
  rw [hRS] at HI4'
  rw [hLF] at HI5
  have HRS := Lib.hid hRS; have HLF := Lib.hid hLF
  clear hRS hLF
  have HG5 := Lib.hid (G1.out.below HC5.out hg)
  have hg5 := HG5.out.lt
  go_wp2_with fail
  go_loopw [12] (fun v W => ∃ i : Nat, i ≤ m ∧ v = .int .i64 i ∧ Hid (Below w5.heap.size w5 W)) (fun v _ => m - (intOf v).toNat)
  case atStart => exact ⟨0, by omega, rfl, Lib.hid (Below.refl _ _)⟩
  case round =>
    obtain ⟨i, him, rfl, HW⟩ := hrel
    obtain ⟨q0, q1⟩ := (HG5.out.below HW.out hg5).cs
    by_cases hi : i < m
    case neg =>
      have yi : ¬ (i : Int) < (m : Int) := by omega
      go_wp2
      go_ret
      exact ⟨rfl, HB5.out.trans (HW.out.mono HB5.out.size)⟩
    have yi : (i : Int) < (m : Int) := by omega
    go_wp2_with fail
    go_loopw [13, 14] (fun v j W => ∃ (k : Nat) (s : Bool), k ≤ nl ∧ j = .int .i64 k ∧ v = .bool s ∧ Hid (s = true ↔ ∃ k', k' < k ∧ gi LF k' = i) ∧ W = wr) (fun v j _ => nl - (intOf j).toNat)
    case atStart => exact ⟨0, false, by omega, rfl, rfl, Lib.hid (by simp), rfl⟩
    case round =>
      obtain ⟨k, s, hk, rfl, rfl, HS, rfl⟩ := hrel
      by_cases hkn : k < nl
      case pos =>
        have yk : (k : Int) < (nl : Int) := by omega
        obtain ⟨a5, rfl⟩ := HI5.out.some (by omega)
        have hc := (HI5.out.below HW.out).cell k hkn
        have step : ∀ s' : Bool, s' = (s || decide (gi LF k = i)) → Hid (s' = true ↔ ∃ k', k' < k + 1 ∧ gi LF k' = i) := fun s' e => Lib.hid (by
          rw [e, Bool.or_eq_true, HS.out, decide_eq_true_iff]
          constructor
          · rintro (⟨k', h1, h2⟩ | h)
            · exact ⟨k', by omega, h2⟩
            · exact ⟨k, by omega, h⟩
          · rintro ⟨k', h1, h2⟩
            by_cases e : k' = k
            · subst e; exact .inr h2
            · exact .inl ⟨k', by omega, h2⟩)
        generalize gi LF k = z at *
        by_cases hz : z = (i : Int)
        · have yz : (z == (i : Int)) = true := by simp [hz]
          have H2 := step true (by simp [hz])
          clear hz step HS
          cases s
          · go_wp2
            go_roundw
            case rel => exact ⟨k + 1, true, by omega, by go_num, rfl, H2, trivial⟩
            case measure => simp [intOf]; omega
          · go_wp2
            go_roundw
            case rel => exact ⟨k + 1, true, by omega, by go_num, rfl, H2, trivial⟩
            case measure => simp [intOf]; omega
        · have yz : (z == (i : Int)) = false := by simp [hz]
          have H2 := step s (by simp [hz])
          clear hz step HS
          cases s
          · go_wp2
            go_roundw
            case rel => exact ⟨k + 1, false, by omega, by go_num, rfl, H2, trivial⟩
            case measure => simp [intOf]; omega
          · go_wp2
            go_roundw
            case rel => exact ⟨k + 1, true, by omega, by go_num, rfl, H2, trivial⟩
            case measure => simp [intOf]; omega
      have yk : ¬ (k : Int) < (nl : Int) := by omega
      have HTH : Hid (s = true ↔ There ns d i) := Lib.hid (by
        rw [HS.out, ← mem_leavesF, HLF.out]
        constructor
        · rintro ⟨k', h1, h2⟩; rw [← h2]; exact gi_mem (by rw [HI5.out.len]; omega)
        · intro hm
          obtain ⟨k', h1, h2⟩ := List.getElem_of_mem hm
          refine ⟨k', by rw [HI5.out.len] at h1; omega, ?_⟩
          unfold gi
          rw [List.getD_eq_getElem?_getD, List.getElem?_eq_getElem h1]; exact h2)
      clear HS
      go_wp2_with fail
      clear yk hk
      have HWr := HW
      have HBr := Lib.hid (HB5.out.trans (HW.out.mono HB5.out.size))
      go_loopw [15, 16] (fun v j W => ∃ (k cnt : Nat), k ≤ nr ∧ cnt ≤ k ∧ j = .int .i64 k ∧ v = .int .i64 cnt ∧ Hid (cnt = if s = true then (RS.take k).countP (kn ns i) else 0) ∧ Hid (Below w5.heap.size w5 W)) (fun v j _ => nr - (intOf j).toNat)
      case atStart => exact ⟨0, 0, by omega, by omega, rfl, rfl, Lib.hid (by simp), HW⟩
      case round =>
        clear HW HWr HBr q0 q1
        obtain ⟨k, cnt, hk, hck, rfl, rfl, HCN, HW⟩ := hrel
        have HBr := Lib.hid (HB5.out.trans (HW.out.mono HB5.out.size))
        by_cases hkn : k < nr
        case pos =>
          have yk : (k : Int) < (nr : Int) := by omega
          obtain ⟨aa, rfl⟩ := HI4'.out.some (by omega)
          have hc := (HI4'.out.below HW.out).cell k hkn
          have hmem : gi RS k ∈ resF ns l p := by rw [HRS.out]; exact gi_mem (by rw [HI4'.out.len]; omega)
          obtain ⟨r0, r1⟩ := res_in HR.out l p hld HP.out _ hmem
          have hlen := HN.out.len
          obtain ⟨j, hj⟩ := Int.eq_ofNat_of_zero_le r0
          have hcnt := count_one (kn ns i) RS k (by rw [HI4'.out.len]; omega)
          rw [hj] at hc hcnt r1
          clear r0 hmem hj
          have hjn : j < n := by omega
          obtain ⟨l', p', hl', hp', hlp⟩ := idx_any d j (by have := HR.out.len; omega)
          obtain ⟨ad, rfl⟩ := HN.out.some (by omega)
          obtain ⟨q, hat, his⟩ := (HN.out.below HBr.out).at j hjn
          have HG := Lib.hid (HG5.out.below HW.out hg5)
          obtain ⟨g, hgg⟩ : ∃ g, w.heap.size = g := ⟨_, rfl⟩
          have KT : Hid (StI d (some ad) n c aa k (j : Int) g wr.drew) := Lib.hid (by rw [← hgg]; exact ⟨HG.out, hc⟩)
          have KJ : Hid (StJ d (some ad) n c aa k (j : Int) (ad.add (j * 6)) q g wr.drew.drew) := Lib.hid (by rw [← hgg]; exact ⟨⟨HG.out, hc⟩, hat⟩)
          have yj0 : ¬ (j : Int) < 0 := by omega
          have yj1 : ¬ (j : Int) ≥ (n : Int) := by omega
          have yj2 : (j : Int) < (n : Int) := by omega
          have HIS6 := Lib.hid his
          have HHA := Lib.hid hat
          have hgw : g < wr.heap.size := by rw [← hgg]; have := HG.out.lt; exact this
          have CA := Lib.hid fun W => refAt_is l' p' W (by omega) (Nat.lt_of_lt_of_le hp' (Nat.pow_le_pow_right (by decide) (show d - l' ≤ 16 - l' by omega)))
          rw [hlp] at CA
          obtain ⟨ob, hob⟩ : ∃ ob : Bool, ob = true ↔ Under l' p' i := ⟨@decide (Under l' p' i) (Classical.propDecidable _), by simp⟩
          have CO := Lib.hid (over_iff (is_spot l' p' (by omega) (Nat.lt_of_lt_of_le hp' (Nat.pow_le_pow_right (by decide) (show d - l' ≤ 16 - l' by omega)))) (i : Int) ob hob)
          have HOB := Lib.hid hob
          have HLP := Lib.hid hlp
          have HCT := Lib.hid hcnt
          rw [hgg]
          clear hc hcnt r1 hlen hp' hlp hat his hob hgg
          go_wp2_with fail
          try simp only [Act.put]
          refine Wr.region_calm ?_
          refine wp_region_any (by kernel_rfl) ?_
          change wpAny _ _ _ _ _ _ _ (World.drew wr)
          refine wpAny_of_held (S := fun W => StI d (some ad) n c aa k (j : Int) g W) _ _ _ _ ?_
          refine wpAnyH_take (i := 0) (v := ?vd1) rfl (by kernel_rfl) (by kernel_rfl) (by kernel_rfl) (fun _ _ _ h => h) (Or.inl ⟨by rfl, ?yd1⟩) KT.out ?rd1
          case yd1 => (intro w' hSw; clear hSw; go_simp; try with_reducible rfl)
          simp only [List.getElem_toArray, List.getElem_cons_succ, List.getElem_cons_zero, Act.put, List.setIfInBounds_toArray, List.set_cons_zero, List.set_cons_succ]
          refine wpAnyH_take (i := 1) (v := ?vd2) rfl (by kernel_rfl) (by kernel_rfl) (by kernel_rfl) (fun _ _ _ h => h) (Or.inl ⟨by rfl, ?yd2⟩) KT.out ?rd2
          case yd2 => (intro w' hSw; clear hSw; go_simp; try with_reducible rfl)
          simp only [List.getElem_toArray, List.getElem_cons_succ, List.getElem_cons_zero, Act.put, List.setIfInBounds_toArray, List.set_cons_zero, List.set_cons_succ]
          refine wpAnyH_take (i := 2) (v := ?vd3) rfl (by kernel_rfl) (by kernel_rfl) (by kernel_rfl) (fun _ _ _ h => h) (Or.inl ⟨by rfl, ?yd3⟩) KT.out ?rd3
          case yd3 => (intro w' hSw; clear hSw; go_simp; try with_reducible rfl)
          simp only [List.getElem_toArray, List.getElem_cons_succ, List.getElem_cons_zero, Act.put, List.setIfInBounds_toArray, List.set_cons_zero, List.set_cons_succ]
          refine wpAnyH_take (i := 3) (v := ?vd4) rfl (by kernel_rfl) (by kernel_rfl) (by kernel_rfl) (fun _ _ _ h => h) (Or.inl ⟨by rfl, ?yd4⟩) KT.out ?rd4
          case yd4 => (intro w' hSw; change StI d (some ad) n c aa k (j : Int) g w' at hSw; obtain ⟨t0, t1, t2⟩ := hSw.cs; clear hSw; go_simp; try with_reducible rfl)
          simp only [List.getElem_toArray, List.getElem_cons_succ, List.getElem_cons_zero, Act.put, List.setIfInBounds_toArray, List.set_cons_zero, List.set_cons_succ]
          refine wpAnyH_take (i := 4) (v := ?vd5) rfl (by kernel_rfl) (by kernel_rfl) (by kernel_rfl) (fun _ _ _ h => h) (Or.inl ⟨by rfl, ?yd5⟩) KT.out ?rd5
          case yd5 => (intro w' hSw; clear hSw; go_simp; try with_reducible rfl)
          simp only [List.getElem_toArray, List.getElem_cons_succ, List.getElem_cons_zero, Act.put, List.setIfInBounds_toArray, List.set_cons_zero, List.set_cons_succ]
          refine wpAnyH_take (i := 5) (v := ?vd6) rfl (by kernel_rfl) (by kernel_rfl) (by kernel_rfl) (fun _ _ _ h => h) (Or.inl ⟨by rfl, ?yd6⟩) KT.out ?rd6
          case yd6 => (intro w' hSw; clear hSw; go_simp; try with_reducible rfl)
          simp only [List.getElem_toArray, List.getElem_cons_succ, List.getElem_cons_zero, Act.put, List.setIfInBounds_toArray, List.set_cons_zero, List.set_cons_succ]
          refine wpAnyH_take (i := 6) (v := ?vd7) rfl (by kernel_rfl) (by kernel_rfl) (by kernel_rfl) (fun _ _ _ h => h) (Or.inl ⟨by rfl, ?yd7⟩) KT.out ?rd7
          case yd7 => (intro w' hSw; clear hSw; go_simp; try with_reducible rfl)
          simp only [List.getElem_toArray, List.getElem_cons_succ, List.getElem_cons_zero, Act.put, List.setIfInBounds_toArray, List.set_cons_zero, List.set_cons_succ]
          refine wpAnyH_take (i := 7) (v := ?vd8) rfl (by kernel_rfl) (by kernel_rfl) (by kernel_rfl) (fun _ _ _ h => h) (Or.inl ⟨by rfl, ?yd8⟩) KT.out ?rd8
          case yd8 => (intro w' hSw; clear hSw; go_simp; try with_reducible rfl)
          simp only [List.getElem_toArray, List.getElem_cons_succ, List.getElem_cons_zero, Act.put, List.setIfInBounds_toArray, List.set_cons_zero, List.set_cons_succ]
          refine wpAnyH_take (i := 8) (v := ?vd9) rfl (by kernel_rfl) (by kernel_rfl) (by kernel_rfl) (fun _ _ _ h => h) (Or.inl ⟨by rfl, ?yd9⟩) KT.out ?rd9
          case yd9 => (intro w' hSw; clear hSw; go_simp; try with_reducible rfl)
          simp only [List.getElem_toArray, List.getElem_cons_succ, List.getElem_cons_zero, Act.put, List.setIfInBounds_toArray, List.set_cons_zero, List.set_cons_succ]
          refine wpAnyH_take (i := 9) (v := ?vd10) rfl (by kernel_rfl) (by kernel_rfl) (by kernel_rfl) (fun _ _ _ h => h) (Or.inl ⟨by rfl, ?yd10⟩) KT.out ?rd10
          case yd10 => (intro w' hSw; change StI d (some ad) n c aa k (j : Int) g w' at hSw; obtain ⟨t0, t1, t2⟩ := hSw.cs; clear hSw; go_simp; try with_reducible rfl)
          simp only [List.getElem_toArray, List.getElem_cons_succ, List.getElem_cons_zero, Act.put, List.setIfInBounds_toArray, List.set_cons_zero, List.set_cons_succ]
          refine wpAnyH_take (i := 10) (v := ?vd11) rfl (by kernel_rfl) (by kernel_rfl) (by kernel_rfl) (fun _ _ _ h => h) (Or.inl ⟨by rfl, ?yd11⟩) KT.out ?rd11
          case yd11 => (intro w' hSw; clear hSw; go_simp; try with_reducible rfl)
          simp only [List.getElem_toArray, List.getElem_cons_succ, List.getElem_cons_zero, Act.put, List.setIfInBounds_toArray, List.set_cons_zero, List.set_cons_succ]
          refine wpAnyH_take (i := 11) (v := ?vd12) rfl (by kernel_rfl) (by kernel_rfl) (by kernel_rfl) (fun _ _ _ h => h) (Or.inl ⟨by rfl, ?yd12⟩) KT.out ?rd12
          case yd12 => (intro w' hSw; change StI d (some ad) n c aa k (j : Int) g w' at hSw; obtain ⟨t0, t1, t2⟩ := hSw.cs; clear hSw; go_simp; try with_reducible rfl)
          simp only [List.getElem_toArray, List.getElem_cons_succ, List.getElem_cons_zero, Act.put, List.setIfInBounds_toArray, List.set_cons_zero, List.set_cons_succ]
          refine wpAnyH_take (i := 12) (v := ?vd13) rfl (by kernel_rfl) (by kernel_rfl) (by kernel_rfl) (fun _ _ _ h => h) (Or.inl ⟨by rfl, ?yd13⟩) KT.out ?rd13
          case yd13 => (intro w' hSw; clear hSw; go_simp; try with_reducible rfl)
          simp only [List.getElem_toArray, List.getElem_cons_succ, List.getElem_cons_zero, Act.put, List.setIfInBounds_toArray, List.set_cons_zero, List.set_cons_succ]
          refine wpAnyH_take (i := 13) (v := ?vd14) rfl (by kernel_rfl) (by kernel_rfl) (by kernel_rfl) (fun _ _ _ h => h) (Or.inl ⟨by rfl, ?yd14⟩) KT.out ?rd14
          case yd14 => (intro w' hSw; clear hSw; go_simp; try with_reducible rfl)
          simp only [List.getElem_toArray, List.getElem_cons_succ, List.getElem_cons_zero, Act.put, List.setIfInBounds_toArray, List.set_cons_zero, List.set_cons_succ]
          refine wpAnyH_take (i := 14) (v := ?vd15) rfl (by kernel_rfl) (by kernel_rfl) (by kernel_rfl) (fun _ _ _ h => h) (Or.inl ⟨by rfl, ?yd15⟩) KT.out ?rd15
          case yd15 => (intro w' hSw; clear hSw; go_simp; try with_reducible rfl)
          simp only [List.getElem_toArray, List.getElem_cons_succ, List.getElem_cons_zero, Act.put, List.setIfInBounds_toArray, List.set_cons_zero, List.set_cons_succ]
          refine wpAnyH_done (by kernel_rfl) ?_ _
          change Exit.then _ _ Exit.normal _ _
          have KW : Hid (Below wr.heap.size wr wr.drew) := Lib.hid (Below.refl _ _).drew
          have KW2 : Hid (Below wr.heap.size wr wr.drew.drew) := Lib.hid (Below.refl _ _).drew.drew
          clear KT
          generalize wr.drew = wd1 at *
          go_wp2_with fail
          try simp only [Act.put]
          refine Wr.region_calm ?_
          refine wp_region_any (by kernel_rfl) ?_
          change wpAny _ _ _ _ _ _ _ (World.drew wd1)
          generalize World.drew wd1 = wd2 at *
          have HSwd2 : Hid (Below wd2.heap.size wd2 wd2) := Lib.hid (Below.refl _ _)
          refine wpAny_of_held (S := fun W => Below wd2.heap.size wd2 W) _ _ _ _ ?_
          refine wpAnyH_take (i := 0) (v := ?ve1) rfl (by kernel_rfl) (by kernel_rfl) (by kernel_rfl) (fun _ _ _ h => h) (Or.inl ⟨by rfl, ?ye1⟩) HSwd2.out ?re1
          case ye1 => (intro w' hSw; clear hSw; go_simp; try with_reducible rfl)
          simp only [List.getElem_toArray, List.getElem_cons_succ, List.getElem_cons_zero, Act.put, List.setIfInBounds_toArray, List.set_cons_zero, List.set_cons_succ]
          refine wpAnyH_take (i := 1) (v := ?ve2) rfl (by kernel_rfl) (by kernel_rfl) (by kernel_rfl) (fun _ _ _ h => h) (Or.inl ⟨by rfl, ?ye2⟩) HSwd2.out ?re2
          case ye2 => (intro w' hSw; have hq_wd2 : Below wd2.heap.size wd2 w' := hSw; have hq := hq_wd2; obtain ⟨t0, t1, t2⟩ := (KJ.out.below hq).1.cs; obtain ⟨p0, p1, p2, p3, p4, p5⟩ := (KJ.out.below hq).2.cells; clear hSw; try clear hq hq_wd2; go_simp; try with_reducible rfl)
          simp only [List.getElem_toArray, List.getElem_cons_succ, List.getElem_cons_zero, Act.put, List.setIfInBounds_toArray, List.set_cons_zero, List.set_cons_succ]
          refine wpAnyH_take (i := 2) (v := ?ve3) rfl (by kernel_rfl) (by kernel_rfl) (by kernel_rfl) (fun _ _ _ h => h) (Or.inl ⟨by rfl, ?ye3⟩) HSwd2.out ?re3
          case ye3 => (intro w' hSw; clear hSw; go_simp; try with_reducible rfl)
          simp only [List.getElem_toArray, List.getElem_cons_succ, List.getElem_cons_zero, Act.put, List.setIfInBounds_toArray, List.set_cons_zero, List.set_cons_succ]
          refine wpAnyH_take (i := 3) (v := ?ve4) rfl (by kernel_rfl) (by kernel_rfl) (by kernel_rfl) (fun _ _ _ h => h) (Or.inl ⟨by rfl, ?ye4⟩) HSwd2.out ?re4
          case ye4 => (intro w' hSw; clear hSw; go_simp; try with_reducible rfl)
          simp only [List.getElem_toArray, List.getElem_cons_succ, List.getElem_cons_zero, Act.put, List.setIfInBounds_toArray, List.set_cons_zero, List.set_cons_succ]
          refine wpAnyH_take (i := 4) (v := ?ve5) rfl (by kernel_rfl) (by kernel_rfl) (by kernel_rfl) (fun _ _ _ h => h) (Or.inl ⟨by rfl, ?ye5⟩) HSwd2.out ?re5
          case ye5 => (intro w' hSw; clear hSw; go_simp; try with_reducible rfl)
          simp only [List.getElem_toArray, List.getElem_cons_succ, List.getElem_cons_zero, Act.put, List.setIfInBounds_toArray, List.set_cons_zero, List.set_cons_succ]
          refine wpAnyH_take (i := 5) (v := ?ve6) rfl (by kernel_rfl) (by kernel_rfl) (by kernel_rfl) (fun _ _ _ h => h) (Or.inl ⟨by rfl, ?ye6⟩) HSwd2.out ?re6
          case ye6 => (intro w' hSw; have hq_wd2 : Below wd2.heap.size wd2 w' := hSw; have hq := hq_wd2; obtain ⟨t0, t1, t2⟩ := (KJ.out.below hq).1.cs; obtain ⟨p0, p1, p2, p3, p4, p5⟩ := (KJ.out.below hq).2.cells; clear hSw; try clear hq hq_wd2; go_simp; try with_reducible rfl)
          simp only [List.getElem_toArray, List.getElem_cons_succ, List.getElem_cons_zero, Act.put, List.setIfInBounds_toArray, List.set_cons_zero, List.set_cons_succ]
          refine wpAnyH_take (i := 6) (v := ?ve7) rfl (by kernel_rfl) (by kernel_rfl) (by kernel_rfl) (fun _ _ _ h => h) (Or.inl ⟨by rfl, ?ye7⟩) HSwd2.out ?re7
          case ye7 => (intro w' hSw; clear hSw; go_simp; try with_reducible rfl)
          simp only [List.getElem_toArray, List.getElem_cons_succ, List.getElem_cons_zero, Act.put, List.setIfInBounds_toArray, List.set_cons_zero, List.set_cons_succ]
          refine wpAnyH_take (i := 7) (v := ?ve8) rfl (by kernel_rfl) (by kernel_rfl) (by kernel_rfl) (fun _ _ _ h => h) (Or.inl ⟨by rfl, ?ye8⟩) HSwd2.out ?re8
          case ye8 => (intro w' hSw; have hq_wd2 : Below wd2.heap.size wd2 w' := hSw; have hq := hq_wd2; obtain ⟨t0, t1, t2⟩ := (KJ.out.below hq).1.cs; obtain ⟨p0, p1, p2, p3, p4, p5⟩ := (KJ.out.below hq).2.cells; clear hSw; try clear hq hq_wd2; go_simp; try with_reducible rfl)
          simp only [List.getElem_toArray, List.getElem_cons_succ, List.getElem_cons_zero, Act.put, List.setIfInBounds_toArray, List.set_cons_zero, List.set_cons_succ]
          refine wpAnyH_ready (rs := [8]) (by kernel_rfl) (by simp) ?_
          refine AllReadyH.cons rfl (fun K' hK => ?_) AllReadyH.nil
          simp only [List.getElem_toArray, List.getElem_cons_succ, List.getElem_cons_zero]
          go_simp
          have ba := below_one wd2 (.cells zeroQ.cs 34)
          have za := heap_alloc_last wd2 (.cells zeroQ.cs 34)
          obtain ⟨wa, hwa⟩ : ∃ wa, wd2.alloc (.cells zeroQ.cs 34) = wa := ⟨_, rfl⟩
          have hwa' := hwa
          dsimp only [zeroQ, NdQ.cs] at hwa'
          rw [hwa] at ba za
          rw [hwa']
          have HU_wd2_wa := Lib.hid ba
          have HZA : Hid (wd2.heap.size < wa.heap.size ∧ wa.heap[wd2.heap.size]? = some (.cells zeroQ.cs 34 (0, 0))) := Lib.hid ⟨(Array.getElem?_eq_some_iff.1 za).1, za⟩
          clear hwa hwa' ba za
          refine hK.out _ _ HU_wd2_wa.out (fun _ => ?_)
          clear hK
          try simp only [List.getElem_toArray, List.getElem_cons_succ, List.getElem_cons_zero, Act.put, List.setIfInBounds_toArray, List.set_cons_zero, List.set_cons_succ]
          refine wpAnyH_ready (rs := [9]) (by kernel_rfl) (by simp) ?_
          refine AllReadyH.cons rfl (fun K' hK => ?_) AllReadyH.nil
          simp only [List.getElem_toArray, List.getElem_cons_succ, List.getElem_cons_zero]
          rw [if_pos (by rfl)]
          have hzz : wa.heap[wd2.heap.size]? = some (.cells zeroQ.cs 34 (0, 0)) := HZA.out.2
          refine wp_store_row 34 (.tmp 17) (.tmp 102) rfl (wd2.heap.size) q.cs rfl rfl 34 zeroQ.cs hzz (nd_sized _) rfl (nd_all _) ?_
          have HND : Hid (NdB q.k q.A1 q.n1 q.c1 q.A2 q.n2 q.c2 q.A3 q.n3 q.c3 q.A4 q.n4 q.c4 q.A5 q.n5 q.c5 (wa.setRow wd2.heap.size q.cs) wd2.heap.size) := Lib.hid (setRow_heap wa wd2.heap.size _ _ _ _ hzz)
          have HBS := Lib.hid (below_setRow HU_wd2_wa.out (Nat.le_refl _) q.cs)
          have HSs := Lib.hid (KJ.out.below HBS.out)
          obtain ⟨w6, hw6⟩ : ∃ w6, wa.setRow wd2.heap.size q.cs = w6 := ⟨_, rfl⟩
          rw [hw6] at HND HBS HSs ⊢
          have HU_wd2_w6 := HBS
          clear hzz hw6
          refine hK.out _ _ HU_wd2_w6.out (fun _ => ?_)
          clear hK
          try simp only [List.getElem_toArray, List.getElem_cons_succ, List.getElem_cons_zero, Act.put, List.setIfInBounds_toArray, List.set_cons_zero, List.set_cons_succ]
          refine wpAnyH_done (by kernel_rfl) ?_ _
          change Exit.then _ _ Exit.normal _ _
          have HB6 := Lib.hid (KW2.out.trans (HBS.out.mono KW2.out.size))
          obtain ⟨g2, hg2⟩ : ∃ g2, wd2.heap.size = g2 := ⟨_, rfl⟩
          rw [hg2] at HND ⊢
          clear HU_wd2_wa HU_wd2_w6 HZA HBS HSwd2 KJ KW KW2 hg2
          obtain ⟨q0, q1, hc⟩ := HSs.out.1.cs
          obtain ⟨kq, A1, n1, c1, A2, n2, c2, A3, n3, c3, A4, n4, c4, A5, n5, c5⟩ := q
          dsimp only at HND HSs
          have HIU : Hid (Ints Any wr A5 n5 c5 (nd ns j).un) := Lib.hid HIS6.out.un
          obtain ⟨un, hun⟩ : ∃ un, (nd ns j).un = un := ⟨_, rfl⟩
          rw [hun] at HIU
          have HUN := Lib.hid hun
          have h5 : n5 ≤ 9223372036854775807 := by have a1 := HIU.out.2.1; have a2 := HIU.out.2.2.1; omega
          have hg6 : g2 < w6.heap.size := (Array.getElem?_eq_some_iff.1 HND.out).1
          clear HIS6 HHA hun
          go_wp2_with (first | (go_at_call 10; refine (CA.out _).mono ?_; rintro e' w7 ⟨rfl, hb7⟩; have HB7 := Lib.hid hb7; clear hb7) | (go_at_call 9; refine (Sp.rover_c CO.out _).mono ?_; rintro e' w8 ⟨rfl, hb8⟩; have HB8 := Lib.hid (HB7.out.trans (hb8.mono HB7.out.size)); clear hb8) | go_in)
          have HIW := Lib.hid (HIU.out.below (HB6.out.trans (HB8.out.mono HB6.out.size)))
          have HW8 := Lib.hid (HW.out.trans ((HB6.out.trans (HB8.out.mono HB6.out.size)).mono HW.out.size))
          obtain ⟨t0, t1, t2, t3, t4, t5⟩ := (HND.out.below HB8.out hg6).cs
          clear HB7 HIU q0 q1 hc t0 t1 t2 t3 t4
          go_loopw [18, 19] (fun v u W => ∃ (k2 : Nat) (kb : Bool), k2 ≤ n5 ∧ u = .int .i64 k2 ∧ v = .bool kb ∧ Hid (kb = true ↔ ob = true ∧ ∀ x ∈ un.take k2, x ≠ (i : Int)) ∧ W = w8) (fun v u _ => n5 - (intOf u).toNat)
          case atStart => exact ⟨0, ob, by omega, rfl, rfl, Lib.hid (by simp), rfl⟩
          case round =>
            obtain ⟨k2, kb, hk2, rfl, rfl, HKB, rfl⟩ := hrel
            by_cases hkn2 : k2 < n5
            case pos =>
              have yk2 : (k2 : Int) < (n5 : Int) := by omega
              obtain ⟨au, rfl⟩ := HIW.out.some (by omega)
              have hcu := HIW.out.cell k2 hkn2
              have step : ∀ b' : Bool, b' = (kb && decide (gi un k2 ≠ (i : Int))) → Hid (b' = true ↔ ob = true ∧ ∀ x ∈ un.take (k2 + 1), x ≠ (i : Int)) := fun b' e => Lib.hid (by
                rw [e, Bool.and_eq_true, HKB.out, decide_eq_true_iff, gi_take un k2 (by rw [HIW.out.len]; exact hkn2)]
                constructor
                · rintro ⟨⟨h1, h2⟩, h3⟩
                  refine ⟨h1, fun x hx => ?_⟩
                  rcases List.mem_append.1 hx with hx | hx
                  · exact h2 x hx
                  · rw [List.mem_singleton.1 hx]; exact h3
                · rintro ⟨h1, h2⟩
                  exact ⟨⟨h1, fun x hx => h2 x (List.mem_append_left _ hx)⟩, h2 _ (List.mem_append_right _ (List.mem_singleton.2 rfl))⟩)
              generalize gi un k2 = z at *
              by_cases hz : z = (i : Int)
              · have yz : (z != (i : Int)) = false := by simp [hz]
                have H2 := step false (by simp [hz])
                clear hz step HKB
                cases kb
                · go_wp2
                  go_roundw
                  case rel => exact ⟨k2 + 1, false, by omega, by go_num, rfl, H2, trivial⟩
                  case measure => simp [intOf]; omega
                · go_wp2
                  go_roundw
                  case rel => exact ⟨k2 + 1, false, by omega, by go_num, rfl, H2, trivial⟩
                  case measure => simp [intOf]; omega
              · have yz : (z != (i : Int)) = true := by simp [hz]
                have H2 := step kb (by simp [hz])
                clear hz step HKB
                cases kb
                · go_wp2
                  go_roundw
                  case rel => exact ⟨k2 + 1, false, by omega, by go_num, rfl, H2, trivial⟩
                  case measure => simp [intOf]; omega
                · go_wp2
                  go_roundw
                  case rel => exact ⟨k2 + 1, true, by omega, by go_num, rfl, H2, trivial⟩
                  case measure => simp [intOf]; omega
            have yk2 : ¬ (k2 : Int) < (n5 : Int) := by omega
            have hkn3 : kn ns i j = kb := by
              rw [Bool.eq_iff_iff, kn_true, ← HLP.out, knows_idx, HKB.out, HOB.out, HLP.out, HUN.out, List.take_of_length_le (by rw [HIW.out.len]; omega)]
              constructor
              · rintro ⟨h1, h2⟩; exact ⟨h1, fun x hx e => h2 (by rw [← e]; exact hx)⟩
              · rintro ⟨h1, h2⟩; exact ⟨h1, fun hm => h2 _ hm rfl⟩
            have hct := HCT.out
            rw [hkn3] at hct
            have hcn := HCN.out
            clear hkn3 HKB HIW HCT HCN
            cases kb
            · have HCN' : Hid (cnt = if s = true then (RS.take (k + 1)).countP (kn ns i) else 0) := Lib.hid (by rw [hct]; simpa using hcn)
              clear hct hcn
              go_wp2
              go_roundw
              case rel => exact ⟨k + 1, cnt, by omega, by omega, by go_num, rfl, HCN', HW8⟩
              case measure => simp [intOf]; omega
            · cases s
              · have HCN' : Hid (cnt = if false = true then (RS.take (k + 1)).countP (kn ns i) else 0) := Lib.hid (by simpa using hcn)
                clear hct hcn
                go_wp2
                go_roundw
                case rel => exact ⟨k + 1, cnt, by omega, by omega, by go_num, rfl, HCN', HW8⟩
                case measure => simp [intOf]; omega
              · have HCN' : Hid (cnt + 1 = if true = true then (RS.take (k + 1)).countP (kn ns i) else 0) := Lib.hid (by rw [hct]; simp at hcn ⊢; exact hcn)
                clear hct hcn
                go_wp2
                go_roundw
                case rel => exact ⟨k + 1, cnt + 1, by omega, by omega, by go_num, by go_num, HCN', HW8⟩
                case measure => simp [intOf]; omega
        have yk : ¬ (k : Int) < (nr : Int) := by omega
        obtain ⟨ob, hob⟩ : ∃ ob : Bool, ob = true ↔ Under l p i := ⟨@decide (Under l p i) (Classical.propDecidable _), by simp⟩
        have CO := Lib.hid (over_iff HIS.out (i : Int) ob hob)
        have hcn := HCN.out
        rw [List.take_of_length_le (by rw [HI4'.out.len]; omega), ← HRS.out] at hcn
        have HTH' := HTH.out
        cases s
        · obtain rfl : cnt = 0 := by simpa using hcn
          clear hcn HCN HTH' hob
          go_wp2_with (first | (go_at_call 9; refine (Sp.rover_c CO.out _).mono ?_; rintro e' w9 ⟨rfl, hb9⟩; have HW9 := Lib.hid (HW.out.trans (hb9.mono HW.out.size)); clear hb9) | go_in)
          go_roundw
          case rel => exact ⟨i + 1, by omega, by go_num, HW⟩
          case measure => simp [intOf]; omega
        · obtain ⟨e1, e2⟩ := count_res HR.out i (HTH'.1 rfl) l p hld HP.out
          rw [if_pos rfl] at hcn
          cases ob
          · obtain rfl : cnt = 0 := by rw [hcn]; exact e2 (fun h => by have := hob.2 h; simp at this)
            clear hcn HCN HTH' hob e1 e2
            go_wp2_with (first | (go_at_call 9; refine (Sp.rover_c CO.out _).mono ?_; rintro e' w9 ⟨rfl, hb9⟩; have HW9 := Lib.hid (HW.out.trans (hb9.mono HW.out.size)); clear hb9) | go_in)
            go_roundw
            case rel => exact ⟨i + 1, by omega, by go_num, HW9⟩
            case measure => simp [intOf]; omega
          · obtain rfl : cnt = 1 := by rw [hcn]; exact e1 (hob.1 rfl)
            clear hcn HCN HTH' hob e1 e2
            go_wp2_with (first | (go_at_call 9; refine (Sp.rover_c CO.out _).mono ?_; rintro e' w9 ⟨rfl, hb9⟩; have HW9 := Lib.hid (HW.out.trans (hb9.mono HW.out.size)); clear hb9) | go_in)
            go_roundw
            case rel => exact ⟨i + 1, by omega, by go_num, HW9⟩
            case measure => simp [intOf]; omega
end Go.Proofs.YtophnoaneoeiaaaDoor.Rt
