/- Walks: GetList, List. -/
import Derived.Test.YthjoafldndgahaaDoorWrWalkH
namespace Go.Proofs.YthjoafldndgahaaDoor.Wr
set_option linter.all false
open Go.RowKit

/-- a list got -/
def GotL (r : List (List Nat) × Nat × Nat) (w : World) (e : Ending) (w' : World) : Prop :=
  ∃ A n c, e = .returned (.tuple #[.slice A n c, .int .i64 r.2.1, .int .i64 r.2.2]) ∧ TxtL (New w.heap.size w') w' A n c r.1 ∧ Below w.heap.size w w'
set_option maxHeartbeats 2000000 in
set_option maxRecDepth 100000 in
theorem getList_any (A : Option Addr) (b : List Nat) (n c : Nat) (x : Int) (w : World) (hT : Tables w) (hA : Txt Any w A n c b) (hn : n ≤ 8388608) (r : List (List Nat) × Nat × Nat) (hr : Hid (getL b x = r)) :
    Calls Tryd.prog 22 #[.slice A n c, .int .i64 x] w (GotL r w) := by
  have hlt := hT.lt
  have HOK := Lib.hid (fun h : (txI b x).2.2 = 0 => txI_ok hA.lt h)
  have HG := Lib.hid (show getT b x = if (txI b x).2.2 ≠ 0 then ([], 0, (txI b x).2.2) else (cut b (txI b x).1 (txI b x).2.1, (txI b x).2.1, 0) from rfl)
  have HGL := Lib.hid (show r = if (getT b x).2.2 ≠ 0 then ([], 0, (getT b x).2.2) else if (textsOf (getT b x).1).2 ≠ 0 then ([], 0, (textsOf (getT b x).1).2) else ((textsOf (getT b x).1).1, (getT b x).2.1, 0) from hr.out.symm)
  obtain ⟨⟨fr, to, er⟩, hL⟩ : ∃ t, txI b x = t := ⟨_, rfl⟩
  rw [hL] at HOK HG
  have HL := Lib.hid hL
  have HA := Lib.hid hA; have HT := Lib.hid hT
  clear hL hA hT
  go_enter Tryd.func22, Tryd.ntmps22
  go_wp2_with fail
  refine (textAt_any A b n c x w HT.out HA.out hn (fr, to, er) HL).mono ?_
  rintro e' w1 ⟨rfl, hB⟩
  have HB := Lib.hid hB; clear hB
  by_cases he : er = 0
  · subst he
    obtain ⟨k1, k2, k3⟩ := HOK.out rfl
    replace k1 : 0 < fr := k1
    replace k2 : fr ≤ to := k2
    replace k3 : to ≤ b.length := k3
    rw [HA.out.len] at k3
    obtain ⟨ad, rfl⟩ := HA.out.some (by omega)
    obtain ⟨ad', hsl, hX⟩ := cut_any HA.out fr to k2 k3
    have HX := Lib.hid (hX.below HB.out); clear hX
    have HG' := Lib.hid (show getT b x = (cut b fr to, to, 0) by rw [HG.out, if_neg (by simp)])
    obtain ⟨⟨ls, e2⟩, hTS⟩ : ∃ t, textsOf (cut b fr to) = t := ⟨_, rfl⟩
    have HR' := Lib.hid (show r = if e2 ≠ 0 then ([], 0, e2) else (ls, to, 0) by rw [HGL.out, HG'.out, if_neg (by simp)]; dsimp only; rw [hTS])
    have HTS := Lib.hid hTS; clear hTS
    go_wp2_with fail
    refine (textsOf_any (some ad') (cut b fr to) (to - fr) (c - fr) w1 (HT.out.below HB.out hlt) HX.out (by omega) (ls, e2) HTS).mono ?_
    rintro e' w2 ⟨A2, n2, c2, rfl, hX2, hB2⟩
    have HX2 := Lib.hid (hX2.mono (New.mono HB.out.size)); have HB2 := Lib.hid (HB.out.trans (hB2.mono HB.out.size)); clear hX2 hB2
    by_cases h2 : e2 = 0
    · subst h2
      have HR := Lib.hid (show r = (ls, to, 0) by rw [HR'.out, if_neg (by simp)])
      go_wp2
      go_ret3
      refine ⟨_, _, _, ?_, by rw [HR.out]; exact HX2.out, HB2.out⟩
      rw [HR.out]; rfl
    · have HR := Lib.hid (show r = ([], 0, e2) by rw [HR'.out, if_pos h2])
      have y2 : ¬ (e2 : Int) = 0 := by omega
      go_wp2
      go_ret3
      refine ⟨_, _, _, ?_, by rw [HR.out]; exact TxtL.nil _ _, HB2.out⟩
      rw [HR.out]; rfl
  · have HG' := Lib.hid (show getT b x = ([], 0, er) by rw [HG.out, if_pos he])
    have HR := Lib.hid (show r = ([], 0, er) by rw [HGL.out, HG'.out, if_pos he])
    have y2 : ¬ (er : Int) = 0 := by omega
    go_wp2
    go_ret3
    refine ⟨_, _, _, ?_, by rw [HR.out]; exact TxtL.nil _ _, HB.out⟩
    rw [HR.out]; rfl

theorem cat_take_succ (ls : List (List Nat)) (k : Nat) (h : k < ls.length) : cat (ls.take (k + 1)) = cat (ls.take k) ++ txB (ls.getD k []) := by
  rw [List.take_succ_eq_append_getElem h, cat_append, cat_one, List.getD_eq_getElem?_getD, List.getElem?_eq_getElem h]; rfl
theorem cat_take_le (ls : List (List Nat)) (k : Nat) : (cat (ls.take k)).length ≤ (cat ls).length := by
  conv => rhs; rw [← List.take_append_drop k ls]
  rw [cat_append, List.length_append]; omega
theorem putT_no {s : List Nat} (h : ¬ s.length ≤ 1048576) : putT s = ([], 2) := by unfold putT; rw [if_pos (by omega)]
theorem putT_yes {s : List Nat} (h : s.length ≤ 1048576) : putT s = (txB s, 0) := by unfold putT; rw [if_neg (by omega)]
theorem putL_no {ls : List (List Nat)} (h : 1048576 < (cat ls).length) : putL ls = ([], 2) := by unfold putL; rw [if_pos h]
theorem own_gen {w w' : World} {base n : Nat} {v : Value} {xs : List Value} (h : w.ownsRow base 5 1 v n xs) (hb : Below w.heap.size w w') : w'.ownsRow base 5 1 v n xs := by
  refine h.kept (row := none) ⟨hb.os, hb.tape, hb.output, hb.size, fun i hi _ => hb.block i hi⟩ ?_
  cases hq : v.ownBlock with
  | none => exact .inl rfl
  | some g => exact .inr (by simp)
theorem txtL_at {S : Nat → Prop} {w : World} {ad : Addr} {n c : Nat} {ls : List (List Nat)} (h : TxtL S w (some ad) n c ls) (j : Nat) (hj : j < n) :
    ∃ Aj nj cj, w.cell? (ad.add j) = some (.slice Aj nj cj) ∧ Txt S w Aj nj cj (ls.getD j []) := h.2.2.2.2.2 ad rfl j hj

set_option maxHeartbeats 4000000 in
set_option maxRecDepth 100000 in
theorem list_any (A : Option Addr) (ls : List (List Nat)) (n c : Nat) (w : World) (hT : Tables w) (hA : TxtL Any w A n c ls) (r : List Nat × Nat) (hr : Hid (putL ls = r)) :
    Calls Tryd.prog 18 #[.slice A n c] w (ToldE r w) := by
  have hlt := hT.lt
  have HL := Lib.hid (show ls.length = n from hA.1)
  have hn63 : n ≤ 9223372036854775807 := by have h1 := hA.2.1; have h2 := hA.2.2.1; omega
  have HA := Lib.hid hA; have HT := Lib.hid hT
  clear hA hT
  go_enter Tryd.func18, Tryd.ntmps18
  go_wp2
  go_loopw [4, 11] (fun v i W => ∃ (k m cC : Nat) (C : Option Addr) (acc : List Nat), i = .int .i64 k ∧ v = .slice C m cC ∧ k ≤ n ∧ m ≤ 1048576 ∧ Hid (W.ownsRow w.heap.size 5 1 (.slice C m cC) m (bcells acc)) ∧ Hid (cat (ls.take k) = acc) ∧ Hid (Below w.heap.size w W)) (fun _ i _ => n - (intOf i).toNat)
  case atStart => exact ⟨0, 0, 0, none, [], rfl, rfl, by omega, by omega, Lib.hid ⟨rfl, .inl ⟨rfl, rfl⟩⟩, Lib.hid (by simp [cat]), Lib.hid (Below.refl _ _)⟩
  case round =>
    obtain ⟨k, m, cC, C, acc, rfl, rfl, hk, hm, HO, HX, HB⟩ := hrel
    have hml : acc.length = m := by have := HO.out.1; rw [bcells_len] at this; omega
    by_cases hkn : k < n
    · have yk : (k : Int) < (n : Int) := by omega
      obtain ⟨ad, rfl⟩ := HA.out.some (by omega)
      obtain ⟨Aj, nj, cj, hc, hX⟩ := txtL_at (HA.out.below HB.out) k hkn
      have HXj := Lib.hid hX
      have HSUC := Lib.hid (cat_take_succ ls k (by rw [HL.out]; exact hkn))
      have HLE := Lib.hid (cat_take_le ls (k + 1))
      obtain ⟨s, hs⟩ : ∃ s, ls.getD k [] = s := ⟨_, rfl⟩
      rw [hs] at HXj HSUC
      rw [HX.out] at HSUC
      clear hX hs
      have hsl := HXj.out.len
      by_cases hbig : s.length ≤ 1048576
      · have HP := Lib.hid (putT_yes hbig)
        have hp := szB_pos s.length
        go_wp2_with fail
        refine (text_any Aj s nj cj wr (HT.out.below HB.out hlt) HXj.out _ HP).mono ?_
        rintro e' w1 ⟨A1, n1, c1, rfl, hX1, hB1⟩
        have hn1 : n1 = szB s.length + s.length := by rw [← hX1.len]; exact txB_len s
        have HX1 := Lib.hid hX1; have HB1 := Lib.hid hB1; clear hX1 hB1 hc
        have HB2 := Lib.hid (HB.out.trans (HB1.out.mono HB.out.size))
        have HO2 := Lib.hid (own_gen HO.out HB1.out)
        have hn1' : n1 ≤ 1048580 := by omega
        have HN1 := Lib.hid hn1; clear hn1
        by_cases hfit : 1048576 - m < n1
        · have HR := Lib.hid (show r = ([], 2) by
            rw [← hr.out]; apply putL_no
            have h1 := HLE.out
            rw [HSUC.out, List.length_append, hml, txB_len, ← HN1.out] at h1
            omega)
          have y2 : 1048576 - (m : Int) < (n1 : Int) := by omega
          clear hsl hbig hp hml
          go_wp2
          go_ret2
          refine ⟨_, _, _, ?_, by rw [HR.out]; exact Txt.nil _ _, HB2.out⟩
          rw [HR.out]; rfl
        · have y2 : ¬ 1048576 - (m : Int) < (n1 : Int) := by omega
          clear hsl hbig hp hml
          go_wp2_with (at_builtin; refine wpList_append_txt rfl (.tmp 29) (.tmp 30) rfl w.heap.size m n1 c1 (.slice C m cC) acc (txB s) A1 (New wr.heap.size w1) rfl rfl HO2.out HX1.out (by omega) HB2.out.size ?_)
          intro v' W2 hown hgrow hat
          obtain ⟨C', c', rfl⟩ := own_slice_of hown
          have HO3 := Lib.hid hown; have HB3 := Lib.hid (below_own HB2.out HO2.out (Nat.le_refl _) hgrow); clear hown hgrow hat
          go_wp2
          go_roundw
          case rel => exact ⟨k + 1, m + n1, c', C', acc ++ txB s, by go_num, rfl, by omega, by omega, HO3, HSUC, HB3⟩
          case measure => simp [intOf]; omega
      · have HP := Lib.hid (putT_no hbig)
        have hp := szB_pos s.length
        have HR := Lib.hid (show r = ([], 2) by
          rw [← hr.out]; apply putL_no
          have h1 := HLE.out
          rw [HSUC.out, List.length_append, txB_len] at h1
          omega)
        go_wp2_with fail
        refine (text_any Aj s nj cj wr (HT.out.below HB.out hlt) HXj.out _ HP).mono ?_
        rintro e' w1 ⟨A1, n1, c1, rfl, hX1, hB1⟩
        have HB2 := Lib.hid (HB.out.trans (hB1.mono HB.out.size)); clear hX1 hB1 hc hsl hp hml
        go_wp2
        go_ret2
        refine ⟨_, _, _, ?_, by rw [HR.out]; exact Txt.nil _ _, HB2.out⟩
        rw [HR.out]; rfl
    · have yk : ¬ (k : Int) < (n : Int) := by omega
      have HAC := Lib.hid (show cat ls = acc by rw [← HX.out, List.take_of_length_le (by rw [HL.out]; omega)])
      have hacc : ∀ j, gt acc j < 256 := by rw [← HAC.out]; exact cat_lt HA.out.all
      obtain ⟨C', c', e, hX⟩ := Txt.of_own HO.out hacc
      injection e with e1 _ e3
      subst e1 e3
      have HXc := Lib.hid hX.any
      have HP := Lib.hid (show putT acc = r by rw [← hr.out, ← HAC.out]; rfl)
      clear hX hacc hml
      go_wp2_with fail
      refine (text_any C acc m cC wr (HT.out.below HB.out hlt) HXc.out r HP).mono ?_
      rintro e' w1 ⟨A1, n1, c1, rfl, hX1, hB1⟩
      have HX1 := Lib.hid (hX1.mono (New.mono HB.out.size)); have HB2 := Lib.hid (HB.out.trans (hB1.mono HB.out.size)); clear hX1 hB1
      go_wp2
      go_ret2
      exact ⟨_, _, _, rfl, HX1.out, HB2.out⟩
end Go.Proofs.YthjoafldndgahaaDoor.Wr
