/- The document's own: List, GetList. -/
import Derived.Test.YthjoafldndgahaaDoorWrRefD
namespace Go.Proofs.YthjoafldndgahaaDoor.Wr
set_option linter.all false
open Go.RowKit

set_option maxHeartbeats 4000000 in
set_option maxRecDepth 100000 in
theorem rlist_any (A : Option Addr) (ls : List (List Nat)) (n c : Nat) (w : World) (hA : TxtL Any w A n c ls) (r : List Nat × Nat) (hr : Hid (putL ls = r)) :
    Calls Tryd.prog 19 #[.slice A n c] w (ToldE r w) := by
  have HL := Lib.hid (show ls.length = n from hA.1)
  have hn63 : n ≤ 9223372036854775807 := by have h1 := hA.2.1; have h2 := hA.2.2.1; omega
  have HA := Lib.hid hA
  clear hA
  go_enter Tryd.func19, Tryd.ntmps19
  go_wp2
  go_loopw [4, 5] (fun v i W => ∃ (k m cC : Nat) (C : Option Addr) (acc : List Nat), i = .int .i64 k ∧ v = .slice C m cC ∧ k ≤ n ∧ m ≤ 1048576 ∧ Hid (W.ownsRow w.heap.size 5 1 (.slice C m cC) m (bcells acc)) ∧ Hid (cat (ls.take k) = acc) ∧ Hid (Below w.heap.size w W)) (fun _ i _ => n - (intOf i).toNat)
  case atStart => exact ⟨0, 0, 0, none, [], rfl, rfl, by omega, by omega, Lib.hid ⟨rfl, .inl ⟨rfl, rfl⟩⟩, Lib.hid (by simp [cat]), Lib.hid (Below.refl _ _)⟩
  case round =>
    obtain ⟨k, m, cC, C, acc, rfl, rfl, hk, hm, HO, HX, HB⟩ := hrel
    have hml : acc.length = m := by have := HO.out.1; rw [bcells_len] at this; omega
    by_cases hkn : k < n
    · have yk : (k : Int) < (n : Int) := by omega
      obtain ⟨ad, rfl⟩ := HA.out.some (by omega)
      obtain ⟨Aj, nj, cj, hc, hX⟩ := txtL_at (HA.out.below HB.out) k hkn
      have HXj := Lib.hid hX
      have HSUC := Lib.hid (cat_take_succ ls k (by rw [HL.out]; exact hkn))
      have HLE := Lib.hid (cat_take_le ls (k + 1))
      obtain ⟨s, hs⟩ : ∃ s, ls.getD k [] = s := ⟨_, rfl⟩
      rw [hs] at HXj HSUC
      rw [HX.out] at HSUC
      clear hX hs
      have hsl := HXj.out.len
      by_cases hbig : s.length ≤ 1048576
      · have HP := Lib.hid (putT_yes hbig)
        have hp := szB_pos s.length
        go_wp2_with fail
        refine (rtext_any Aj s nj cj wr HXj.out _ HP).mono ?_
        rintro e' w1 ⟨A1, n1, c1, rfl, hX1, hB1⟩
        have hn1 : n1 = szB s.length + s.length := by rw [← hX1.len]; exact txB_len s
        have HX1 := Lib.hid hX1; have HB1 := Lib.hid hB1; clear hX1 hB1 hc
        have HB2 := Lib.hid (HB.out.trans (HB1.out.mono HB.out.size))
        have HO2 := Lib.hid (own_gen HO.out HB1.out)
        have hn1' : n1 ≤ 1048580 := by omega
        have HN1 := Lib.hid hn1; clear hn1
        have HML := Lib.hid hml
        clear hsl hbig hp hml
        go_wp2_with (at_builtin; refine wpList_append_txt rfl (.tmp 25) (.tmp 26) rfl w.heap.size m n1 c1 (.slice C m cC) acc (txB s) A1 (New wr.heap.size w1) rfl rfl HO2.out HX1.out (by omega) HB2.out.size ?_)
        intro v' W2 hown hgrow hat
        obtain ⟨C', c', rfl⟩ := own_slice_of hown
        have HO3 := Lib.hid hown; have HB3 := Lib.hid (below_own HB2.out HO2.out (Nat.le_refl _) hgrow); clear hown hgrow hat
        obtain ⟨m', hm', hmm⟩ : ∃ m', m + n1 = m' ∧ (m : Int) + (n1 : Int) = (m' : Int) := ⟨_, rfl, by omega⟩
        rw [hm'] at HO3
        try rw [hm']
        by_cases hfit : 1048576 < m'
        · have HR := Lib.hid (show r = ([], 2) by
            rw [← hr.out]; apply putL_no
            have h1 := HLE.out
            rw [HSUC.out, List.length_append, HML.out, txB_len, ← HN1.out, hm'] at h1
            omega)
          have y2 : (1048576 : Int) < (m' : Int) := by omega
          clear hm' hmm
          go_wp2
          go_ret2
          refine ⟨_, _, _, ?_, by rw [HR.out]; exact Txt.nil _ _, HB3.out⟩
          rw [HR.out]; rfl
        · have y2 : ¬ (1048576 : Int) < (m' : Int) := by omega
          clear hm' hmm
          go_wp2
          go_roundw
          case rel => exact ⟨k + 1, m', c', C', acc ++ txB s, by go_num, rfl, by omega, by omega, HO3, HSUC, HB3⟩
          case measure => simp [intOf]; omega
      · have HP := Lib.hid (putT_no hbig)
        have hp := szB_pos s.length
        have HR := Lib.hid (show r = ([], 2) by
          rw [← hr.out]; apply putL_no
          have h1 := HLE.out
          rw [HSUC.out, List.length_append, txB_len] at h1
          omega)
        go_wp2_with fail
        refine (rtext_any Aj s nj cj wr HXj.out _ HP).mono ?_
        rintro e' w1 ⟨A1, n1, c1, rfl, hX1, hB1⟩
        have HB2 := Lib.hid (HB.out.trans (hB1.mono HB.out.size)); clear hX1 hB1 hc hsl hp hml
        go_wp2
        go_ret2
        refine ⟨_, _, _, ?_, by rw [HR.out]; exact Txt.nil _ _, HB2.out⟩
        rw [HR.out]; rfl
    · have yk : ¬ (k : Int) < (n : Int) := by omega
      have HAC := Lib.hid (show cat ls = acc by rw [← HX.out, List.take_of_length_le (by rw [HL.out]; omega)])
      have hacc : ∀ j, gt acc j < 256 := by rw [← HAC.out]; exact cat_lt HA.out.all
      obtain ⟨C', c', e, hX⟩ := Txt.of_own HO.out hacc
      injection e with e1 _ e3
      subst e1 e3
      have HXc := Lib.hid hX.any
      have HP := Lib.hid (show putT acc = r by rw [← hr.out, ← HAC.out]; rfl)
      clear hX hacc hml
      go_wp2_with fail
      refine (rtext_any C acc m cC wr HXc.out r HP).mono ?_
      rintro e' w1 ⟨A1, n1, c1, rfl, hX1, hB1⟩
      have HX1 := Lib.hid (hX1.mono (New.mono HB.out.size)); have HB2 := Lib.hid (HB.out.trans (hB1.mono HB.out.size)); clear hX1 hB1
      go_wp2
      go_ret2
      exact ⟨_, _, _, rfl, HX1.out, HB2.out⟩

theorem getT_len {b : List Nat} (x : Int) : (getT b x).1.length ≤ b.length := by
  unfold getT
  split
  · exact Nat.zero_le _
  · show (cut b _ _).length ≤ _
    unfold cut; rw [List.length_take, List.length_drop]; omega
set_option maxHeartbeats 4000000 in
set_option maxRecDepth 100000 in
theorem rgetList_any (A : Option Addr) (b : List Nat) (n c : Nat) (x : Int) (w : World) (hA : Txt Any w A n c b) (hn : n ≤ 8388608) (r : List (List Nat) × Nat × Nat) (hr : Hid (getL b x = r)) :
    Calls Tryd.prog 23 #[.slice A n c, .int .i64 x] w (GotL r w) := by
  have HGL := Lib.hid (show r = if (getT b x).2.2 ≠ 0 then ([], 0, (getT b x).2.2) else if (textsOf (getT b x).1).2 ≠ 0 then ([], 0, (textsOf (getT b x).1).2) else ((textsOf (getT b x).1).1, (getT b x).2.1, 0) from hr.out.symm)
  have HLEN := Lib.hid (getT_len (b := b) x)
  obtain ⟨⟨al, to, er⟩, hL⟩ : ∃ t, getT b x = t := ⟨_, rfl⟩
  rw [hL] at HGL HLEN
  have HL := Lib.hid hL
  have HA := Lib.hid hA
  clear hL hA
  go_enter Tryd.func23, Tryd.ntmps23
  go_wp2_with fail
  refine (rgetText_any A b n c x w HA.out hn (al, to, er) HL).mono ?_
  rintro e' w1 ⟨Aa, na, ca, rfl, hX, hB⟩
  have HX := Lib.hid hX.any; have HB := Lib.hid hB; clear hX hB
  by_cases he : er = 0
  · subst he
    have hnam : na ≤ 8388608 := by have h1 : al.length = na := HX.out.len; have h2 : al.length ≤ b.length := HLEN.out; rw [HA.out.len] at h2; omega
    obtain ⟨⟨ls, e2⟩, hTS⟩ : ∃ t, textsOf al = t := ⟨_, rfl⟩
    have HR' := Lib.hid (show r = if e2 ≠ 0 then ([], 0, e2) else (ls, to, 0) by rw [HGL.out, if_neg (by simp), hTS])
    have HTX := Lib.hid (show txs al na 0 [] = (ls, e2) by rw [← HX.out.len]; exact hTS)
    clear hTS
    have hsz := HB.out.size
    go_wp2
    go_loopw [10, 11] (fun v i W => ∃ (p k cC f : Nat) (C : Option Addr) (acc : List (List Nat)), i = .int .i64 p ∧ v = .slice C k cC ∧ p ≤ na ∧ k ≤ p ∧ na - p ≤ f ∧ Hid (OwnL W w1.heap.size (.slice C k cC) k acc) ∧ Hid (txs al f p acc = (ls, e2)) ∧ Hid (Below w1.heap.size w1 W)) (fun _ i _ => na - (intOf i).toNat)
    case atStart => exact ⟨0, 0, 0, na, none, [], rfl, rfl, by omega, by omega, by omega, Lib.hid (OwnL.nil _ _), HTX, Lib.hid (Below.refl _ _)⟩
    case round =>
      obtain ⟨p, k, cC, f, C, acc, rfl, rfl, hp, hkp, hf, HO, HXs, HBv⟩ := hrel
      have HBB := Lib.hid (HB.out.trans (HBv.out.mono hsz))
      by_cases hpn : p < na
      · have yp : (p : Int) < (na : Int) := by omega
        have HSTEP := Lib.hid (HXs.out.symm.trans (txs_step (acc := acc) (by rw [HX.out.len]; exact hpn) (by rw [HX.out.len]; exact hf)))
        have HOK := Lib.hid (fun h => getT_ok HX.out.lt (p := p) (by rw [HX.out.len]; omega) h)
        obtain ⟨⟨s, tt, ee⟩, hG⟩ : ∃ t, getT al p = t := ⟨_, rfl⟩
        rw [hG] at HSTEP HOK
        have HG := Lib.hid hG; clear hG
        go_wp2_with fail
        refine (rgetText_any Aa al na ca p wr (HX.out.below HBv.out) hnam (s, tt, ee) HG).mono ?_
        rintro e' w3 ⟨A1, n1, c1, rfl, hX1, hB1⟩
        have HX1 := Lib.hid hX1; have HB1 := Lib.hid hB1; clear hX1 hB1
        have HB2 := Lib.hid (HBv.out.trans (HB1.out.mono HBv.out.size))
        by_cases he3 : ee = 0
        · subst he3
          obtain ⟨k1, k2, -⟩ := HOK.out rfl
          replace k1 : p < tt := k1
          replace k2 : tt ≤ al.length := k2
          rw [HX.out.len] at k2
          have HNX := Lib.hid (show txs al (f - 1) tt (acc ++ [s]) = (ls, e2) by rw [HSTEP.out, if_neg (by simp)])
          have HA3 := Lib.hid ((Below.refl w3.heap.size w3).alloc (Nat.le_refl _) (.cells #[.slice A1 n1 c1] 22))
          have HO3 := Lib.hid ((HO.out.below HB1.out).below HA3.out)
          have HB3 := Lib.hid (HB2.out.alloc HB2.out.size (.cells #[.slice A1 n1 c1] 22))
          have hs0 := HBv.out.size
          have hs1 := HB1.out.size
          have HX3 := Lib.hid ((HX1.out.below HA3.out).mono (S' := fun b => w1.heap.size ≤ b ∧ b < (w3.alloc (.cells #[.slice A1 n1 c1] 22)).heap.size ∧ (Value.slice C k cC).ownBlock ≠ some b) fun b' hb => ⟨Nat.le_trans hs0 hb.1, Nat.lt_of_lt_of_le hb.2 HA3.out.size, fun e => by have := (HO.out.lt e).2; have := hb.1; omega⟩)
          have hc0 : (w3.alloc (.cells #[.slice A1 n1 c1] 22)).cell? ⟨w3.heap.size, 0, none⟩ = some (.slice A1 n1 c1) := by rw [cell_of_row _ _ 0 _ 22 (0, 0) (heap_alloc_last w3 _)]; rfl
          have HC0 := Lib.hid hc0; clear hc0
          go_wp2_with (at_builtin; refine wpList_append_one rfl (.tmp 39) (.tmp 41) rfl w1.heap.size k n1 c1 w3.heap.size (.slice C k cC) acc s A1 rfl rfl HO3.out HX3.out HC0.out (by omega) HB3.out.size ?_)
          intro v' W2 hO4 hgrow
          obtain ⟨C', c', rfl⟩ := hO4.slice
          have HO4 := Lib.hid hO4; have HB4 := Lib.hid (below_ownL HB3.out HO3.out (Nat.le_refl _) hgrow); clear hO4 hgrow
          go_wp2
          go_roundw
          case rel => exact ⟨tt, k + 1, c', f - 1, C', acc ++ [s], rfl, rfl, k2, by omega, by omega, HO4, HNX, HB4⟩
          case measure => simp [intOf]; omega
        · have HE := Lib.hid (show ls = [] ∧ e2 = ee by have h1 := HSTEP.out; rw [if_pos he3] at h1; exact ⟨congrArg Prod.fst h1, congrArg Prod.snd h1⟩)
          have HR := Lib.hid (show r = ([], 0, ee) by rw [HR'.out, HE.out.2, if_pos he3])
          have HBf := Lib.hid (HB.out.trans (HB2.out.mono hsz))
          have y2 : ¬ (ee : Int) = 0 := by omega
          go_wp2
          go_ret3
          refine ⟨_, _, _, ?_, by rw [HR.out]; exact TxtL.nil _ _, HBf.out⟩
          rw [HR.out]; rfl
      · have yp : ¬ (p : Int) < (na : Int) := by omega
        have HE := Lib.hid (show ls = acc ∧ e2 = 0 by have h1 := HXs.out; rw [txs_end (by rw [HX.out.len]; omega)] at h1; exact ⟨(congrArg Prod.fst h1).symm, (congrArg Prod.snd h1).symm⟩)
        have HR := Lib.hid (show r = (acc, to, 0) by rw [HR'.out, HE.out.2, if_neg (by simp), HE.out.1])
        have HTL := Lib.hid (HO.out.toL.mono (New.mono hsz))
        go_wp2
        go_ret3
        refine ⟨_, _, _, ?_, by rw [HR.out]; exact HTL.out, HBB.out⟩
        rw [HR.out]; rfl
  · have HR := Lib.hid (show r = ([], 0, er) by rw [HGL.out, if_pos he])
    have y2 : ¬ (er : Int) = 0 := by omega
    go_wp2
    go_ret3
    refine ⟨_, _, _, ?_, by rw [HR.out]; exact TxtL.nil _ _, HB.out⟩
    rw [HR.out]; rfl
end Go.Proofs.YthjoafldndgahaaDoor.Wr
