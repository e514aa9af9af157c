/- The document's own: the tag, Close, Open. -/
import Derived.Test.YtfhibjpkbbbfpaaDoorBxRefA
import Derived.Test.YtfhibjpkbbbfpaaDoorBxWalkD
namespace Go.Proofs.YtfhibjpkbbbfpaaDoor.Bx
set_option linter.all false
open Go.RowKit Wr

set_option maxHeartbeats 2000000 in
set_option maxRecDepth 100000 in
/-- a text's bytes, in a row of the call's own -/
theorem rtext_own (A : Option Addr) (s : List Nat) (n c : Nat) (w : World) (hA : Txt Any w A n c s) (h : n ≤ 1048576) (r : List Nat) (hr : Hid (txB s = r)) :
    Calls Tryd.prog 28 #[.slice A n c] w fun e w' => ∃ C cap, e = .returned (.tuple #[.slice C r.length cap, .int .i64 0]) ∧ w'.ownsRow w.heap.size 5 1 (.slice C r.length cap) r.length (bcells r) ∧ Below w.heap.size w w' := by
  have hl := hA.len
  have HA := Lib.hid hA
  have HR : Hid (lenB n ++ s = r) := Lib.hid (by rw [← hr.out]; unfold txB; rw [hl])
  have y1 : ¬ (1048576 : Int) < (n : Int) := by omega
  obtain ⟨k, hk, hk4⟩ : ∃ k, (lenB n).length = k ∧ k ≤ 4 := ⟨_, rfl, by rw [lenB_len]; exact (szB_pos n).2⟩
  obtain ⟨l, hl2⟩ : ∃ l, lenB n = l := ⟨_, rfl⟩
  have HLN := Lib.hid hl2
  rw [hl2] at hk HR
  have HRL : Hid (r.length = k + n) := Lib.hid (by rw [← HR.out, List.length_append, hk, hl])
  clear hl2
  go_enter Tryd.func28, Tryd.ntmps28
  go_wp2_with fail
  refine (rlength_any n w (by omega) l HLN).mono ?_
  rintro e' w1 ⟨h1, cap1, rfl, hO, hB⟩
  rw [hk] at hO ⊢
  have HO := Lib.hid hO; have HB := Lib.hid hB; clear hO hB hk
  have HA1 := Lib.hid (HA.out.below HB.out)
  go_wp2_with (at_builtin; refine wpList_append_txt rfl (.tmp 9) (.tmp 10) rfl w.heap.size k n c _ l s A Any rfl rfl HO.out HA1.out (by omega) HB.out.size ?_)
  intro v' W2 hown hgrow hat
  obtain ⟨C', c', rfl⟩ := own_slice_of hown
  have HB3 := Lib.hid (below_own HB.out HO.out (Nat.le_refl _) hgrow)
  rw [HR.out] at hown
  have HX := Lib.hid hown; clear hown hgrow hat
  go_wp2
  go_ret2
  exact ⟨_, _, by rw [HRL.out]; rfl, by rw [HRL.out]; exact HX.out, HB3.out⟩

set_option maxHeartbeats 2000000 in
set_option maxRecDepth 100000 in
theorem rtag_any (K A B : Option Addr) (key a b : List Nat) (nk ck na ca nb cb : Nat) (w : World) (hK : Txt Any w K nk ck key) (hnk : nk ≤ 32) (hA : Txt Any w A na ca a) (hB : Txt Any w B nb cb b) (hma : na ≤ 32768) (hmb : nb ≤ 32800)
    (r : List Nat) (hr : Hid (tg (kT key) a b = r)) :
    Calls Tryd.prog 20 #[.slice K nk ck, .slice A na ca, .slice B nb cb] w (Wr.Told r w) := by
  have HK := Lib.hid hK; have HA := Lib.hid hA; have HB := Lib.hid hB; clear hK hA hB
  obtain ⟨x, hx⟩ : ∃ x, txB a = x := ⟨_, rfl⟩
  have HXE := Lib.hid hx
  have HXN : Hid (x.length ≤ na + 4) := Lib.hid (by rw [← hx, txB_len, HA.out.len]; have := szB_pos na; omega)
  have HXL : Hid (∀ j, gt x j < 256) := Lib.hid (by rw [← hx]; exact gt_append_lt (lenB_lt _) HA.out.lt)
  have HTR : Hid (Sha.mac (kT key) (x ++ b) = r) := Lib.hid (by rw [← hr.out, ← hx]; rfl)
  clear hx
  go_enter Tryd.func20, Tryd.ntmps20
  go_wp2_with fail
  refine (rtext_own A a na ca w HA.out (by omega) x HXE).mono ?_
  rintro e' w1 ⟨C, cap, rfl, hO, hB1⟩
  have HO := Lib.hid hO; have HB1 := Lib.hid hB1
  have HCL : Hid (∀ g, (Value.slice C x.length cap).ownBlock = some g → g < w1.heap.size) := Lib.hid fun g e => (hO.lt g e).2
  clear hO hB1
  go_wp2_with fail
  refine (rlabel_any ⟨#[116, 97, 103]⟩ (by decide) K key nk ck w1 (HK.out.below HB1.out) hnk).mono ?_
  change ∀ e' w', Wr.Told (kT key) w1 e' w' → _
  rintro e' w2 ⟨A2, n2, c2, rfl, hX2, hB2⟩
  obtain rfl : n2 = 32 := by rw [← hX2.len]; exact lb_len _ _
  obtain ⟨xn, hxn⟩ : ∃ xn, x.length = xn := ⟨_, rfl⟩
  rw [hxn] at HO HXN HCL ⊢
  have HO2 := Lib.hid (Sha.own_gen HO.out hB2); have HX2 := Lib.hid hX2; have HB2 := Lib.hid (HB1.out.trans (hB2.mono HB1.out.size))
  have hxn4 := HXN.out
  clear hX2 hB2 HO
  have HBB := Lib.hid (HB.out.below HB2.out)
  go_wp2_with (at_builtin; refine wpList_append_txt rfl (.tmp 16) (.tmp 17) rfl w.heap.size xn nb cb _ x b B Any rfl rfl HO2.out HBB.out (by omega) HB2.out.size ?_)
  intro v' w3 hown hgrow hat
  have HX3 : Hid (Txt Any w3 A2 32 c2 (kT key)) := Lib.hid (HX2.out.kept hgrow.size fun b hb hlt => hgrow.block b hlt (fun e => by have h1 := HCL.out b e.symm; have h2 := hb.1; omega)).any
  obtain ⟨C', c', rfl⟩ := own_slice_of hown
  have HB3 := Lib.hid (below_own HB2.out HO2.out (Nat.le_refl _) hgrow)
  obtain ⟨A4, c4, e4, hX4⟩ := Txt.of_own hown (gt_append_lt HXL.out HB.out.lt)
  injection e4 with e1 _ e3
  subst e1 e3
  have HX4 := Lib.hid hX4.any; clear hX4 hown hgrow hat HO2 HX2
  go_wp2_with fail
  refine (rhmac_any A2 C' (kT key) (x ++ b) 32 c2 (xn + nb) c' w3 HX3.out (by omega) HX4.out (by omega)).mono ?_
  rw [HTR.out]
  rintro e' w5 ⟨A5, n5, c5, rfl, hX5, hB5⟩
  have HX5 := Lib.hid (hX5.mono (New.mono HB3.out.size)); have HB5 := Lib.hid (HB3.out.trans (hB5.mono HB3.out.size)); clear hX5 hB5
  go_wp2
  go_ret
  exact ⟨_, _, _, rfl, HX5.out, HB5.out⟩

set_option maxHeartbeats 2000000 in
set_option maxRecDepth 100000 in
theorem rclose_bad (K A B : Option Addr) (nk ck na ca nb cb : Nat) (w : World) (h : ¬ nk = 32 ∨ 32768 < na ∨ 32768 < nb) :
    Calls Tryd.prog 11 #[.slice K nk ck, .slice A na ca, .slice B nb cb] w fun e w' => e = .returned (.tuple #[.slice none 0 0, .int .i64 (if nk = 32 then 2 else 1)]) ∧ w = w' := by
  by_cases h1 : nk = 32
  · subst h1
    by_cases h2 : 32768 < na
    · have y2 : (32768 : Int) < (na : Int) := by omega
      go_enter Tryd.func11, Tryd.ntmps11
      go_wp2
      go_ret2
      exact ⟨rfl, rfl⟩
    · have y2 : ¬ (32768 : Int) < (na : Int) := by omega
      have y3 : (32768 : Int) < (nb : Int) := by omega
      go_enter Tryd.func11, Tryd.ntmps11
      go_wp2
      go_ret2
      exact ⟨rfl, rfl⟩
  · have y1 : ((nk : Int) != 32) = true := by rw [bne_iff_ne]; omega
    rw [if_neg h1]
    go_enter Tryd.func11, Tryd.ntmps11
    go_wp2
    go_ret2
    exact ⟨rfl, rfl⟩

set_option maxHeartbeats 2000000 in
set_option maxRecDepth 100000 in
theorem rclose_ok (K A B : Option Addr) (key ahead text : List Nat) (ck na ca nb cb : Nat) (w : World) (h3' : 6 ≤ w.heap.size) (hK : Txt Any w K 32 ck key) (hA : Txt Any w A na ca ahead) (hB : Txt Any w B nb cb text) (hma : na ≤ 32768) (hmb : nb ≤ 32768)
    (h t : List Nat) (hh : Hid (hide (kS key) text = h)) (ht : Hid (tg (kT key) ahead h = t)) :
    Calls Tryd.prog 11 #[.slice K 32 ck, .slice A na ca, .slice B nb cb] w (ToldE (h ++ t, 0) w) := by
  have HK := Lib.hid hK; have HA := Lib.hid hA; have HB := Lib.hid hB; clear hK hA hB
  have HHL : Hid (h.length = nb) := Lib.hid (by rw [← hh.out, hide_len]; exact HB.out.len)
  have HHX : Hid (∀ j, gt h j < 256) := Lib.hid (by rw [← hh.out]; exact hide_lt _ HB.out.lt)
  have HTL : Hid (t.length = 32) := Lib.hid (by rw [← ht.out]; exact tg_len _ _ _)
  have HTX : Hid (∀ j, gt t j < 256) := Lib.hid (by rw [← ht.out]; exact tg_lt _ _ _)
  have y2 : ¬ (32768 : Int) < (na : Int) := by omega
  have y3 : ¬ (32768 : Int) < (nb : Int) := by omega
  go_enter Tryd.func11, Tryd.ntmps11
  go_wp2_with fail
  refine (rstream_any K B key text 32 ck nb cb w h3' HK.out (by omega) HB.out (by omega)).mono ?_
  rw [hh.out]
  rintro e' w1 ⟨v, rfl, hO, hB1⟩
  rw [HHL.out] at hO
  obtain ⟨C, cap, rfl⟩ := own_slice_of hO
  obtain ⟨A3, c3, e3, hX3⟩ := Txt.of_own hO HHX.out
  injection e3 with e1 _ e3
  subst e1 e3
  have HX3 := Lib.hid hX3.any; have HO := Lib.hid hO; have HB1 := Lib.hid hB1; clear hX3 hO hB1
  go_wp2_with fail
  refine (rtag_any K A C key ahead h 32 ck na ca nb cap w1 (HK.out.below HB1.out) (by omega) (HA.out.below HB1.out) HX3.out hma (by omega) t ht).mono ?_
  rintro e' w2 ⟨A4, n4, c4, rfl, hX4, hB4⟩
  obtain rfl : n4 = 32 := by rw [← hX4.len]; exact HTL.out
  have HX4 := Lib.hid hX4.any; have HO2 := Lib.hid (Sha.own_gen HO.out hB4); have HB4 := Lib.hid (HB1.out.trans (hB4.mono HB1.out.size))
  clear hX4 hB4 HO
  go_wp2_with (at_builtin; refine wpList_append_txt rfl (.tmp 28) (.tmp 29) rfl w.heap.size nb 32 c4 _ h t A4 Any rfl rfl HO2.out HX4.out (by omega) HB4.out.size ?_)
  intro v' w3 hown hgrow hat
  obtain ⟨C', c', rfl⟩ := own_slice_of hown
  have HB5 := Lib.hid (below_own HB4.out HO2.out (Nat.le_refl _) hgrow)
  obtain ⟨A5, c5, e5, hX5⟩ := Txt.of_own hown (gt_append_lt HHX.out HTX.out)
  injection e5 with e1 _ e3
  subst e1 e3
  have HX5 := Lib.hid hX5; clear hX5 hown hgrow hat
  go_wp2
  go_ret2
  exact ⟨_, _, _, rfl, HX5.out, HB5.out⟩
/-- the document's Close, of whatever lengths -/
theorem rclose_any (K A B : Option Addr) (key ahead text : List Nat) (nk ck na ca nb cb : Nat) (w : World) (h3' : 6 ≤ w.heap.size) (hK : Txt Any w K nk ck key) (hA : Txt Any w A na ca ahead) (hB : Txt Any w B nb cb text)
    (r : List Nat × Nat) (hr : Hid (closeP key ahead text = r)) :
    Calls Tryd.prog 11 #[.slice K nk ck, .slice A na ca, .slice B nb cb] w (ToldE r w) := by
  have e1 := hK.len; have e2 := hA.len; have e3 := hB.len
  rw [← hr.out]
  by_cases hbad : ¬ nk = 32 ∨ 32768 < na ∨ 32768 < nb
  · refine (rclose_bad K A B nk ck na ca nb cb w hbad).mono ?_
    rintro e w' ⟨rfl, rfl⟩
    by_cases h1 : nk = 32
    · rw [closeP_2 (e1.trans h1) (by omega), if_pos h1]
      exact ⟨_, _, _, rfl, Txt.nil _ _, Below.refl _ _⟩
    · rw [closeP_1 (by omega), if_neg h1]
      exact ⟨_, _, _, rfl, Txt.nil _ _, Below.refl _ _⟩
  · obtain rfl : nk = 32 := by omega
    rw [closeP_0 e1 (by omega) (by omega)]
    exact rclose_ok K A B key ahead text ck na ca nb cb w h3' hK hA hB (by omega) (by omega) _ _ (Lib.hid rfl) (Lib.hid rfl)
end Go.Proofs.YtfhibjpkbbbfpaaDoor.Bx
