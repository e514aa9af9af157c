/- Walks: textAt, Clone, GetText. -/
import Derived.Test.YthjoafldndgahaaDoorWrWalkF
import Derived.WalkSpells
namespace Go.Proofs.YthjoafldndgahaaDoor.Wr
set_option linter.all false
open Go.RowKit

theorem okP_true {n : Nat} {x : Int} : okP n x = true ↔ ∃ p : Nat, x = p ∧ p ≤ n := by
  constructor
  · intro h
    have h' : 0 ≤ x ∧ x ≤ n := by simpa [okP] using h
    exact ⟨x.toNat, by omega, by omega⟩
  · rintro ⟨p, rfl, h⟩
    simp [okP]; omega
set_option maxHeartbeats 2000000 in
set_option maxRecDepth 100000 in
theorem textAt_any (A : Option Addr) (b : List Nat) (n c : Nat) (x : Int) (w : World) (hT : Tables w) (hA : Txt Any w A n c b) (hn : n ≤ 8388608) (r : Nat × Nat × Nat) (hr : Hid (txI b x = r)) :
    Calls Tryd.prog 31 #[.slice A n c, .int .i64 x] w (SayB r w) := by
  have hl := hA.len
  by_cases h1 : okP n x = true
  · obtain ⟨p, rfl, hp⟩ := okP_true.1 h1
    have HR0 : Hid (txAt b p = r) := Lib.hid (by rw [← hr.out, txI_nat _ _ (by omega)])
    have HOK := Lib.hid (fun h : (lenAt b p).2.2 = 0 => lenAt_ok hA.lt h)
    obtain ⟨⟨m, fr, er⟩, hL⟩ : ∃ t, lenAt b p = t := ⟨_, rfl⟩
    have HTX := Lib.hid (show txAt b p = if er ≠ 0 then (0, 0, er) else if 1048576 < m then (0, 0, 2) else if n < fr + m then (0, 0, 111) else (fr, fr + m, 0) by unfold txAt; rw [hL, hl])
    rw [hL] at HOK
    have HL := Lib.hid hL
    clear hl hL
    have HA := Lib.hid hA; have HT := Lib.hid hT
    go_enter Tryd.func31, Tryd.ntmps31
    go_wp2_with fail
    refine (isPlace_any _ n c p w).mono ?_
    rintro e' w1 ⟨rfl, rfl⟩
    rw [h1]
    go_wp2_with fail
    refine (lengthAt_any A b n c p w HT.out HA.out hp hn (m, fr, er) HL).mono ?_
    rintro e' w1 ⟨rfl, hB⟩
    have HB := Lib.hid hB; clear hB hA hT
    by_cases he : er = 0
    · subst he
      obtain ⟨k1, k2, k3, k4, k5⟩ := HOK.out rfl
      replace k1 : p < fr := k1
      replace k2 : fr ≤ b.length := k2
      replace k3 : m < 1073741824 := k3
      rw [HA.out.len] at k2
      clear k4 k5
      by_cases h2 : 1048576 < m
      · have HR := Lib.hid (show r = (0, 0, 2) by rw [← HR0.out, HTX.out, if_neg (by simp), if_pos h2])
        have y2 : (1048576 : Int) < (m : Int) := by omega
        go_wp2
        go_ret3
        exact ⟨by rw [HR.out]; rfl, HB.out⟩
      · have y2 : ¬ (1048576 : Int) < (m : Int) := by omega
        by_cases h3 : n < fr + m
        · have HR := Lib.hid (show r = (0, 0, 111) by rw [← HR0.out, HTX.out, if_neg (by simp), if_neg h2, if_pos h3])
          have y3 : (n : Int) - (fr : Int) < (m : Int) := by omega
          go_wp2
          go_ret3
          exact ⟨by rw [HR.out]; rfl, HB.out⟩
        · have y3 : ¬ (n : Int) - (fr : Int) < (m : Int) := by omega
          obtain ⟨q, hq, hq'⟩ : ∃ q : Nat, fr + m = q ∧ (fr : Int) + (m : Int) = (q : Int) := ⟨_, rfl, by omega⟩
          have HR := Lib.hid (show r = (fr, q, 0) by rw [← HR0.out, HTX.out, if_neg (by simp), if_neg h2, if_neg h3, hq])
          clear hq
          go_wp2
          go_ret3
          exact ⟨by rw [HR.out]; rfl, HB.out⟩
    · have HR := Lib.hid (show r = (0, 0, er) by rw [← HR0.out, HTX.out, if_pos he])
      have y2 : ¬ (er : Int) = 0 := by omega
      go_wp2
      go_ret3
      exact ⟨by rw [HR.out]; rfl, HB.out⟩
  · have h1' : okP n x = false := by cases h : okP n x <;> simp_all
    have HR := Lib.hid (show r = (0, 0, 1) by
      rw [← hr.out]; unfold txI; rw [if_pos]
      have h2 : ¬ (0 ≤ x ∧ x ≤ n) := by intro h; exact h1 (by simpa [okP] using h)
      omega)
    clear hl
    go_enter Tryd.func31, Tryd.ntmps31
    go_wp2_with fail
    refine (isPlace_any _ n c x w).mono ?_
    rintro e' w1 ⟨rfl, rfl⟩
    rw [h1']
    go_wp2
    go_ret3
    exact ⟨by rw [HR.out]; rfl, Below.refl _ _⟩

/-- a part of a text, wherever it ends -/
theorem cut_any {S : Nat → Prop} {w : World} {ad : Addr} {n c : Nat} {bs : List Nat} (h : Txt S w (some ad) n c bs) (p q : Nat) (hpq : p ≤ q) (hq : q ≤ n) :
    ∃ ad' : Addr, (∀ W : World, (Instr.slice 22 (.slice (some ad) n c) (some (.int .i64 (p : Int))) (some (.int .i64 (q : Int))) none).run Tryd.prog W = .ok (.slice (some ad') (q - p) (c - p)) W) ∧ Txt S w (some ad') (q - p) (c - p) (cut bs p q) := by
  have hnc := h.2.2.1
  by_cases hp : p < c
  · exact ⟨_, fun W => run_cut ad n c p q hpq hq hp hnc W, h.part p q hpq hq⟩
  · refine ⟨ad, fun W => ?_, ?_⟩
    · have h1 : Tryd.prog.underlying 22 = some (.slice (Tryd.prog.elem 22)) := by kernel_rfl
      have h3 : Tryd.prog.elem 22 = 5 := by kernel_rfl
      have h4 : (Tryd.prog.info? 5).map (·.size) = some 1 := by kernel_rfl
      obtain rfl : p = c := by omega
      cases hq' : Tryd.prog.info? 5 with
      | none => simp [hq'] at h4
      | some i =>
        have hs1 : i.size = 1 := by simpa [hq'] using h4
        rw [run_slice_lh (a := some ad) (len := n) (cap := p) (w := W) (t := 22) (ht := h1) .i64 .i64 (p : Int) (q : Int) (by omega) (by omega) (by omega), h3]
        have e4 : ad.add 0 = ad := rfl
        simp [sizeOf, typeInfo, hq', hs1, sliced, e4]
    · obtain rfl : p = q := by omega
      rw [Nat.sub_self]
      have hc : cut bs p p = [] := by unfold cut; simp
      rw [hc]
      exact ⟨Rd.nil _ _ _, rfl, Nat.zero_le _, by have := h.2.2.2.1; omega, fun e => (by cases e), h.2.2.2.2.2⟩

set_option maxHeartbeats 2000000 in
set_option maxRecDepth 100000 in
theorem clone_any (ad : Addr) (b : List Nat) (n c : Nat) (w : World) (hA : Txt Any w (some ad) n c b) (hn : n ≤ 8388608) (r : List Nat) (hr : Hid (b = r)) :
    Calls Tryd.prog 32 #[.slice (some ad) n c] w (Told r w) := by
  have HA := Lib.hid hA
  have HNIL := Lib.hid (nil_own w (base := w.heap.size) (Nat.le_refl _))
  have HB1 := Lib.hid ((Below.refl w.heap.size w).alloc (Nat.le_refl _) (.cells #[] 5))
  have HA1 := Lib.hid (HA.out.below HB1.out)
  clear hA
  have hnil : ∀ W : World, (binOp .eql 22 (.slice (some ad) n c) (.slice none 0 0)).run Tryd.prog W = .ok (.bool false) W := fun W => run_eql_nil_slice W 22 5 (some ad) n c 0 0 Tryd.underlying22
  go_enter Tryd.func32, Tryd.ntmps32
  go_wp2_with (at_builtin; refine wpList_append_txt rfl (.tmp 5) (.tmp 6) rfl w.heap.size 0 n c _ [] b (some ad) Any rfl rfl HNIL.out HA1.out (by omega) HB1.out.size ?_)
  intro v' W2 hown hgrow hat
  obtain ⟨C', c', rfl⟩ := own_slice_of hown
  have HO3 := Lib.hid hown; have HB3 := Lib.hid (below_own HB1.out HNIL.out (Nat.le_refl _) hgrow); clear hown hgrow hat
  go_wp2
  go_ret
  obtain ⟨A', c'', e, hX⟩ := Txt.of_own HO3.out HA.out.lt
  injection e with e1 _ e3
  subst e1 e3
  exact ⟨_, _, _, rfl, by rw [← hr.out]; exact hX, HB3.out⟩

/-- a text got -/
def GotT (r : List Nat × Nat × Nat) (w : World) (e : Ending) (w' : World) : Prop :=
  ∃ A n c, e = .returned (.tuple #[.slice A n c, .int .i64 r.2.1, .int .i64 r.2.2]) ∧ Txt (New w.heap.size w') w' A n c r.1 ∧ Below w.heap.size w w'
theorem txI_zero_of {b : List Nat} {x : Int} (h : (txI b x).2.2 ≠ 0) : (txI b x).1 = 0 ∧ (txI b x).2.1 = 0 := by
  unfold txI at h ⊢
  by_cases h1 : x < 0 ∨ (b.length : Int) < x
  · rw [if_pos h1]; exact ⟨rfl, rfl⟩
  rw [if_neg h1] at h ⊢
  unfold txAt at h ⊢
  split
  · exact ⟨rfl, rfl⟩
  split
  · exact ⟨rfl, rfl⟩
  split
  · exact ⟨rfl, rfl⟩
  · rename_i h2 h3 h4
    rw [if_neg h2, if_neg h3, if_neg h4] at h; exact absurd rfl h
theorem txI_ok {b : List Nat} (hb : ∀ j, gt b j < 256) {x : Int} (h : (txI b x).2.2 = 0) : 0 < (txI b x).1 ∧ (txI b x).1 ≤ (txI b x).2.1 ∧ (txI b x).2.1 ≤ b.length := by
  unfold txI at h ⊢
  by_cases h1 : x < 0 ∨ (b.length : Int) < x
  · rw [if_pos h1] at h; cases h
  rw [if_neg h1] at h ⊢
  obtain ⟨k1, k2, k3, -, -⟩ := txAt_ok hb h
  exact ⟨by omega, k2, k3⟩
set_option maxHeartbeats 2000000 in
set_option maxRecDepth 100000 in
theorem getText_any (A : Option Addr) (b : List Nat) (n c : Nat) (x : Int) (w : World) (hT : Tables w) (hA : Txt Any w A n c b) (hn : n ≤ 8388608) (r : List Nat × Nat × Nat) (hr : Hid (getT b x = r)) :
    Calls Tryd.prog 20 #[.slice A n c, .int .i64 x] w (GotT r w) := by
  have HOK := Lib.hid (fun h : (txI b x).2.2 = 0 => txI_ok hA.lt h)
  have HG := Lib.hid (show getT b x = if (txI b x).2.2 ≠ 0 then ([], 0, (txI b x).2.2) else (cut b (txI b x).1 (txI b x).2.1, (txI b x).2.1, 0) from rfl)
  obtain ⟨⟨fr, to, er⟩, hL⟩ : ∃ t, txI b x = t := ⟨_, rfl⟩
  rw [hL] at HOK HG
  have HL := Lib.hid hL
  have HA := Lib.hid hA; have HT := Lib.hid hT
  clear hL hA hT
  go_enter Tryd.func20, Tryd.ntmps20
  go_wp2_with fail
  refine (textAt_any A b n c x w HT.out HA.out hn (fr, to, er) HL).mono ?_
  rintro e' w1 ⟨rfl, hB⟩
  have HB := Lib.hid hB; clear hB
  by_cases he : er = 0
  · subst he
    obtain ⟨k1, k2, k3⟩ := HOK.out rfl
    replace k1 : 0 < fr := k1
    replace k2 : fr ≤ to := k2
    replace k3 : to ≤ b.length := k3
    rw [HA.out.len] at k3
    obtain ⟨ad, rfl⟩ := HA.out.some (by omega)
    obtain ⟨ad', hsl, hX⟩ := cut_any HA.out fr to k2 k3
    have HX := Lib.hid (hX.below HB.out); clear hX
    have HR := Lib.hid (show r = (cut b fr to, to, 0) by rw [← hr.out, HG.out, if_neg (by simp)])
    go_wp2_with fail
    refine (clone_any ad' (cut b fr to) (to - fr) (c - fr) w1 HX.out (by omega) _ (Lib.hid rfl)).mono ?_
    rintro e' w2 ⟨A2, n2, c2, rfl, hX2, hB2⟩
    have HX2 := Lib.hid (hX2.mono (New.mono HB.out.size)); have HB2 := Lib.hid (HB.out.trans (hB2.mono HB.out.size)); clear hX2 hB2
    go_wp2
    go_ret3
    refine ⟨_, _, _, ?_, by rw [HR.out]; exact HX2.out, HB2.out⟩
    rw [HR.out]; rfl
  · have HR := Lib.hid (show r = ([], 0, er) by rw [← hr.out, HG.out, if_pos he])
    have y2 : ¬ (er : Int) = 0 := by omega
    go_wp2
    go_ret3
    refine ⟨_, _, _, ?_, by rw [HR.out]; exact Txt.nil _ _, HB.out⟩
    rw [HR.out]; rfl
end Go.Proofs.YthjoafldndgahaaDoor.Wr
