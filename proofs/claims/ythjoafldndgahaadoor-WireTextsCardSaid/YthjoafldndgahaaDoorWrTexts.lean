/- Walks: WireTexts. -/
import Derived.Test.YthjoafldndgahaaDoorWrRefE
import Derived.Test.YthjoafldndgahaaDoorWrWalkJ
namespace Go.Proofs.YthjoafldndgahaaDoor.Wr
set_option linter.all false
open Go.RowKit

/-- bytes of one's own, below lo and at or above w -/
def Mine (w lo : Nat) (W : World) (C : Option Addr) (n : Nat) : Prop := ∀ ad, C = some ad → ∃ g, ad = ⟨g, 0, none⟩ ∧ w ≤ g ∧ g < lo ∧ Bytes W g n
theorem Mine.of_own {w n c lo : Nat} {W : World} {C : Option Addr} {xs : List Nat} (h : W.ownsRow w 5 1 (.slice C n c) n (bcells xs)) (hlo : W.heap.size ≤ lo) : Mine w lo W C n := by
  intro ad e
  subst e
  have h' := h
  rcases h.2 with ⟨e, _⟩ | ⟨g, c', cur, e, hb, hc, h1, h2, hs, ht⟩
  · cases e
  · injection e with e1 e2 e3
    have e4 : ad = ⟨g, 0, none⟩ := Option.some.inj e1
    subst e4 e3
    exact ⟨g, rfl, hb, by have := (h'.lt g rfl).2; omega, bytes_of_own h'⟩
theorem Mine.below {w lo n : Nat} {W W' : World} {C : Option Addr} (h : Mine w lo W C n) (hb : Below W.heap.size W W') : Mine w lo W' C n := by
  intro ad e
  obtain ⟨g, rfl, h1, h2, cur, h3, h4⟩ := h ad e
  have hlt : g < W.heap.size := (Array.getElem?_eq_some_iff.1 h3).1
  exact ⟨g, rfl, h1, h2, cur, (hb.block g hlt).trans h3, h4⟩
def Up (lo : Nat) : Nat → Prop := fun b => lo ≤ b
theorem Txt.up {lo lo' : Nat} {w : World} {A : Option Addr} {n c : Nat} {bs : List Nat} (h : Txt (New lo w) w A n c bs) (hl : lo' ≤ lo) : Txt (Up lo') w A n c bs := h.mono fun b hb => Nat.le_trans hl hb.1
theorem TxtL.up {lo lo' : Nat} {w : World} {A : Option Addr} {n c : Nat} {ls : List (List Nat)} (h : TxtL (New lo w) w A n c ls) (hl : lo' ≤ lo) : TxtL (Up lo') w A n c ls := h.mono fun b hb => Nat.le_trans hl hb.1
theorem Txt.set {lo g i : Nat} {w : World} {A : Option Addr} {n c : Nat} {bs : List Nat} {v : Value} (h : Txt (Up lo) w A n c bs) (hg : g < lo) : Txt (Up lo) (w.setCell ⟨g, i, none⟩ v) A n c bs :=
  h.kept (by simp [World.setCell]) fun b hb _ => Below.heap_setCell w ⟨g, i, none⟩ v b (by intro e; have : b = g := e; have h2 : lo ≤ b := hb; omega)
theorem TxtL.set {lo g i : Nat} {w : World} {A : Option Addr} {n c : Nat} {ls : List (List Nat)} {v : Value} (h : TxtL (Up lo) w A n c ls) (hg : g < lo) : TxtL (Up lo) (w.setCell ⟨g, i, none⟩ v) A n c ls :=
  h.kept (by simp [World.setCell]) fun b hb _ => Below.heap_setCell w ⟨g, i, none⟩ v b (by intro e; have : b = g := e; have h2 : lo ≤ b := hb; omega)

set_option maxHeartbeats 8000000 in
set_option maxRecDepth 100000 in
theorem wireTexts_walk (A : Option Addr) (s : List Nat) (n c : Nat) (L : Option Addr) (l : List (List Nat)) (nl cl : Nat) (B : Option Addr) (b : List Nat) (nb cb : Nat) (p : Int) (w : World) (hT : Tables w) (hA : Txt Any w A n c s) (hL : TxtL Any w L nl cl l) (hB : Txt Any w B nb cb b)
    (w3 : (Lit.int .i64 p).wf = true) :
    Calls Tryd.prog 4 #[.slice A n c, .slice L nl cl, .slice B nb cb, .int .i64 p] w fun e w' => e = .returned (.bool true) ∧ Below w.heap.size w w' := by
  have hlt := hT.lt
  have hn63 : n ≤ 9223372036854775807 := by have h1 := hA.2.2.1; have h2 := hA.2.2.2.1; omega
  have hb63 : nb ≤ 9223372036854775807 := by have h1 := hB.2.2.1; have h2 := hB.2.2.2.1; omega
  have hl63 : nl ≤ 9223372036854775807 := by have h1 := hL.2.1; have h2 := hL.2.2.1; omega
  have HT := Lib.hid hT; have HA := Lib.hid hA; have HL := Lib.hid hL; have HBb := Lib.hid hB
  clear hT hA hL hB w3
  obtain ⟨⟨x1, e1⟩, h1⟩ : ∃ r, putT s = r := ⟨_, rfl⟩
  obtain ⟨⟨x2, e2⟩, h2⟩ : ∃ r, putL l = r := ⟨_, rfl⟩
  obtain ⟨⟨x3, p3, e3⟩, h3⟩ : ∃ r, getT b p = r := ⟨_, rfl⟩
  obtain ⟨⟨x4, p4, e4⟩, h4⟩ : ∃ r, getL b p = r := ⟨_, rfl⟩
  have H1 := Lib.hid h1; have H2 := Lib.hid h2; have H3 := Lib.hid h3; have H4 := Lib.hid h4
  clear h1 h2 h3 h4
  go_enter Tryd.func4, Tryd.ntmps4
  go_wp2_with fail
  refine (head_any w HT.out).mono ?_
  rintro e' v0 ⟨rfl, hB0⟩
  have HB0 := Lib.hid hB0; clear hB0
  go_wp2_with fail
  refine (great_any A n c v0).mono ?_
  rintro e' w1 ⟨rfl, rfl⟩
  by_cases hbig : 2097152 < n
  · rw [decide_eq_true hbig]
    go_wp2
    go_ret
    exact ⟨rfl, HB0.out⟩
  rw [decide_eq_false hbig]
  go_wp2_with fail
  refine (great_any B nb cb v0).mono ?_
  rintro e' w1 ⟨rfl, rfl⟩
  by_cases hbig2 : 2097152 < nb
  · rw [decide_eq_true hbig2]
    go_wp2
    go_ret
    exact ⟨rfl, HB0.out⟩
  rw [decide_eq_false hbig2]
  by_cases hbig3 : 2000 < nl
  · have yb : (2000 : Int) < (nl : Int) := by omega
    go_wp2
    go_ret
    exact ⟨rfl, HB0.out⟩
  have yb : ¬ (2000 : Int) < (nl : Int) := by omega
  have hs0 := HB0.out.size
  have HNIL := Lib.hid (nil_own v0 (base := v0.heap.size) (Nat.le_refl _))
  have HC0 := Lib.hid ((Below.refl v0.heap.size v0).alloc (Nat.le_refl _) (.cells #[] 5))
  have HB1 := Lib.hid (HB0.out.alloc hs0 (.cells #[] 5))
  have HBb1 := Lib.hid (HBb.out.below HB1.out)
  go_wp2_with (at_builtin; refine wpList_append_txt rfl (.tmp 45) (.tmp 46) rfl v0.heap.size 0 nb cb _ [] b B Any rfl rfl HNIL.out HBb1.out (by omega) HC0.out.size ?_)
  intro v' v1 hown hgrow hat
  obtain ⟨C, cc, rfl⟩ := own_slice_of hown
  try rw [Nat.zero_add, List.nil_append] at hown
  have HC1 := Lib.hid (below_own HC0.out HNIL.out (Nat.le_refl _) hgrow)
  have HB2 := Lib.hid (HB0.out.trans (HC1.out.mono hs0))
  obtain ⟨C', c', e, hX⟩ := Txt.of_own hown HBb.out.lt
  injection e with ee1 _ ee3
  subst ee1 ee3
  have HOX := Lib.hid hX.any
  have HM := Lib.hid (Mine.of_own hown (Nat.le_refl _))
  have HCN := Lib.hid (show C = none → nb = 0 from fun e => by have h1 := HOX.out.2.2.1; have h2 := HOX.out.2.2.2.2.1 e; omega)
  obtain ⟨lo, hlo⟩ : ∃ lo, v1.heap.size = lo := ⟨_, rfl⟩
  have HLO := Lib.hid (show lo ≤ v1.heap.size by omega)
  rw [hlo] at HM
  clear hX hown hgrow hat HNIL HC0 HB1 HBb1 HC1 hlo
  go_wp2_with fail
  refine (text_any A s n c v1 (HT.out.below HB2.out hlt) (HA.out.below HB2.out) _ H1).mono ?_
  rintro e' u0 ⟨Aa, na, ca, rfl, hX, hB⟩
  have HXa0 := Lib.hid (hX.up HLO.out)
  have HB3 := Lib.hid (HB2.out.trans (hB.mono HB2.out.size))
  have HOX0 := Lib.hid (HOX.out.below hB)
  have HM0 := Lib.hid (HM.out.below hB)
  have HLO0 := Lib.hid (Nat.le_trans HLO.out hB.size)
  clear hX hB HOX HM HLO
  go_wp2_with fail
  refine (rtext_any A s n c u0 (HA.out.below HB3.out) _ H1).mono ?_
  rintro e' u1 ⟨Ac, nc, cc, rfl, hX, hB⟩
  have HXc1 := Lib.hid (hX.up HLO0.out)
  have HB4 := Lib.hid (HB3.out.trans (hB.mono HB3.out.size))
  have HOX1 := Lib.hid (HOX0.out.below hB)
  have HM1 := Lib.hid (HM0.out.below hB)
  have HLO1 := Lib.hid (Nat.le_trans HLO0.out hB.size)
  have HXa1 := Lib.hid (HXa0.out.below hB)
  clear hX hB HOX0 HM0 HLO0 HXa0 HB3
  go_wp2_with fail
  refine (list_any L l nl cl u1 (HT.out.below HB4.out hlt) (HL.out.below HB4.out) _ H2).mono ?_
  rintro e' u2 ⟨Ad, nd, cd, rfl, hX, hB⟩
  have HXd2 := Lib.hid (hX.up HLO1.out)
  have HB5 := Lib.hid (HB4.out.trans (hB.mono HB4.out.size))
  have HOX2 := Lib.hid (HOX1.out.below hB)
  have HM2 := Lib.hid (HM1.out.below hB)
  have HLO2 := Lib.hid (Nat.le_trans HLO1.out hB.size)
  have HXa2 := Lib.hid (HXa1.out.below hB)
  have HXc2 := Lib.hid (HXc1.out.below hB)
  clear hX hB HOX1 HM1 HLO1 HXa1 HXc1 HB4
  go_wp2_with fail
  refine (rlist_any L l nl cl u2 (HL.out.below HB5.out) _ H2).mono ?_
  rintro e' u3 ⟨Ai, ni, ci, rfl, hX, hB⟩
  have HXi3 := Lib.hid (hX.up HLO2.out)
  have HB6 := Lib.hid (HB5.out.trans (hB.mono HB5.out.size))
  have HOX3 := Lib.hid (HOX2.out.below hB)
  have HM3 := Lib.hid (HM2.out.below hB)
  have HLO3 := Lib.hid (Nat.le_trans HLO2.out hB.size)
  have HXa3 := Lib.hid (HXa2.out.below hB)
  have HXc3 := Lib.hid (HXc2.out.below hB)
  have HXd3 := Lib.hid (HXd2.out.below hB)
  clear hX hB HOX2 HM2 HLO2 HXa2 HXc2 HXd2 HB5
  go_wp2_with fail
  refine (getText_any _ b _ _ p u3 (HT.out.below HB6.out hlt) HOX3.out (by omega) _ H3).mono ?_
  rintro e' u4 ⟨At, nt, ct, rfl, hX, hB⟩
  have HXt4 := Lib.hid (hX.up HLO3.out)
  have HB7 := Lib.hid (HB6.out.trans (hB.mono HB6.out.size))
  have HOX4 := Lib.hid (HOX3.out.below hB)
  have HM4 := Lib.hid (HM3.out.below hB)
  have HLO4 := Lib.hid (Nat.le_trans HLO3.out hB.size)
  have HXa4 := Lib.hid (HXa3.out.below hB)
  have HXc4 := Lib.hid (HXc3.out.below hB)
  have HXd4 := Lib.hid (HXd3.out.below hB)
  have HXi4 := Lib.hid (HXi3.out.below hB)
  clear hX hB HOX3 HM3 HLO3 HXa3 HXc3 HXd3 HXi3 HB6
  go_wp2_with fail
  refine (rgetText_any B b nb cb p u4 (HBb.out.below HB7.out) (by omega) _ H3).mono ?_
  rintro e' u5 ⟨Au, nu, cu, rfl, hX, hB⟩
  have HXu5 := Lib.hid (hX.up HLO4.out)
  have HB8 := Lib.hid (HB7.out.trans (hB.mono HB7.out.size))
  have HOX5 := Lib.hid (HOX4.out.below hB)
  have HM5 := Lib.hid (HM4.out.below hB)
  have HLO5 := Lib.hid (Nat.le_trans HLO4.out hB.size)
  have HXa5 := Lib.hid (HXa4.out.below hB)
  have HXc5 := Lib.hid (HXc4.out.below hB)
  have HXd5 := Lib.hid (HXd4.out.below hB)
  have HXi5 := Lib.hid (HXi4.out.below hB)
  have HXt5 := Lib.hid (HXt4.out.below hB)
  clear hX hB HOX4 HM4 HLO4 HXa4 HXc4 HXd4 HXi4 HXt4 HB7
  go_wp2_with fail
  refine (getList_any _ b _ _ p u5 (HT.out.below HB8.out hlt) HOX5.out (by omega) _ H4).mono ?_
  rintro e' u6 ⟨Ax, nx, cx, rfl, hX, hB⟩
  have HXx6 := Lib.hid (hX.up HLO5.out)
  have HB9 := Lib.hid (HB8.out.trans (hB.mono HB8.out.size))
  have HOX6 := Lib.hid (HOX5.out.below hB)
  have HM6 := Lib.hid (HM5.out.below hB)
  have HLO6 := Lib.hid (Nat.le_trans HLO5.out hB.size)
  have HXa6 := Lib.hid (HXa5.out.below hB)
  have HXc6 := Lib.hid (HXc5.out.below hB)
  have HXd6 := Lib.hid (HXd5.out.below hB)
  have HXi6 := Lib.hid (HXi5.out.below hB)
  have HXt6 := Lib.hid (HXt5.out.below hB)
  have HXu6 := Lib.hid (HXu5.out.below hB)
  clear hX hB HOX5 HM5 HLO5 HXa5 HXc5 HXd5 HXi5 HXt5 HXu5 HB8
  go_wp2_with fail
  refine (rgetList_any B b nb cb p u6 (HBb.out.below HB9.out) (by omega) _ H4).mono ?_
  rintro e' u7 ⟨Ay, ny, cy, rfl, hX, hB⟩
  have HXy7 := Lib.hid (hX.up HLO6.out)
  have HB10 := Lib.hid (HB9.out.trans (hB.mono HB9.out.size))
  have HOX7 := Lib.hid (HOX6.out.below hB)
  have HM7 := Lib.hid (HM6.out.below hB)
  have HLO7 := Lib.hid (Nat.le_trans HLO6.out hB.size)
  have HXa7 := Lib.hid (HXa6.out.below hB)
  have HXc7 := Lib.hid (HXc6.out.below hB)
  have HXd7 := Lib.hid (HXd6.out.below hB)
  have HXi7 := Lib.hid (HXi6.out.below hB)
  have HXt7 := Lib.hid (HXt6.out.below hB)
  have HXu7 := Lib.hid (HXu6.out.below hB)
  have HXx7 := Lib.hid (HXx6.out.below hB)
  clear hX hB HOX6 HM6 HLO6 HXa6 HXc6 HXd6 HXi6 HXt6 HXu6 HXx6 HB9
  clear HOX7 HLO7
  go_wp2_with fail
  go_loopw [31] (fun i W => ∃ k : Nat, k ≤ nb ∧ i = .int .i64 k ∧ Hid (Mine v0.heap.size lo W C nb) ∧ Hid (Txt (Up lo) W Aa na ca x1) ∧ Hid (Txt (Up lo) W Ac nc cc x1) ∧ Hid (Txt (Up lo) W Ad nd cd x2) ∧ Hid (Txt (Up lo) W Ai ni ci x2) ∧ Hid (Txt (Up lo) W At nt ct x3) ∧ Hid (Txt (Up lo) W Au nu cu x3) ∧ Hid (TxtL (Up lo) W Ax nx cx x4) ∧ Hid (TxtL (Up lo) W Ay ny cy x4) ∧ Hid (Below w.heap.size w W)) (fun i _ => nb - (intOf i).toNat)
  case atStart => exact ⟨0, by omega, rfl, HM7, HXa7, HXc7, HXd7, HXi7, HXt7, HXu7, HXx7, HXy7, HB10⟩
  case round =>
    clear HM7 HXa7 HXc7 HXd7 HXi7 HXt7 HXu7 HXx7 HXy7 HB10
    obtain ⟨k, hk, rfl, HM, HXa, HXc, HXd, HXi, HXt, HXu, HXx, HXy, HB⟩ := hrel
    by_cases hkn : k < nb
    · have hC : ∃ g, C = some ⟨g, 0, none⟩ ∧ v0.heap.size ≤ g ∧ g < lo ∧ Bytes wr g nb := by
        cases C with
        | none => exact absurd (HCN.out rfl) (by omega)
        | some ad => obtain ⟨g, e, h1, h2, h3⟩ := HM.out ad rfl; exact ⟨g, by rw [e], h1, h2, h3⟩
      obtain ⟨g, rfl, hg1, hg2, hby⟩ := hC
      obtain ⟨z, c0⟩ := hby.cell k hkn
      have f0 := hby.frozen k
      have HBY := Lib.hid hby
      have yk : (k : Int) < (nb : Int) := by omega
      have hgw : w.heap.size ≤ g := by omega
      clear hby
      go_wp2
      go_roundw
      case rel =>
        exact ⟨k + 1, by omega, by go_num, Lib.hid (fun ad e => by injection e with e; subst e; exact ⟨g, rfl, hg1, hg2, HBY.out.set k _⟩), Lib.hid (HXa.out.set hg2), Lib.hid (HXc.out.set hg2), Lib.hid (HXd.out.set hg2), Lib.hid (HXi.out.set hg2), Lib.hid (HXt.out.set hg2), Lib.hid (HXu.out.set hg2), Lib.hid (HXx.out.set hg2), Lib.hid (HXy.out.set hg2), Lib.hid (HB.out.setCell (by exact hgw) _)⟩
      case measure => simp [intOf]; omega
    · have yk : ¬ (k : Int) < (nb : Int) := by omega
      have cva := HXa.out.conv
      have cvc := HXc.out.conv
      have cvd := HXd.out.conv
      have cvi := HXi.out.conv
      have cvt := HXt.out.conv
      have cvu := HXu.out.conv
      go_wp2_with fail
      refine (same_any Ax Ay x4 x4 nx cx ny cy wr HXx.out.any HXy.out.any true (Lib.hid (decide_eq_true rfl))).mono ?_
      rintro e' w9 ⟨rfl, hB9⟩
      have HB9 := Lib.hid (HB.out.trans (hB9.mono HB.out.size)); clear hB9
      go_wp2
      go_ret
      exact ⟨rfl, HB9.out⟩
end Go.Proofs.YthjoafldndgahaaDoor.Wr
