/- Walks: BoxBound (where tags whose own tags are alike are alike). -/
import Derived.Test.YtfhibjpkbbbfpaaDoorBxCloses
namespace Go.Proofs.YtfhibjpkbbbfpaaDoor.Bx
set_option linter.all false
open Go.RowKit Wr

theorem u16_wf {x : Int} (h : (Lit.int .u16 x).wf = true) : ∃ k : Nat, x = k ∧ k < 65536 := by
  simp [Lit.wf, IntKind.min, IntKind.max, IntKind.bits, IntKind.signed] at h
  exact ⟨x.toNat, by omega, by omega⟩
theorem u8_wf {x : Int} (h : (Lit.int .u8 x).wf = true) : ∃ k : Nat, x = k ∧ k < 256 := by
  simp [Lit.wf, IntKind.min, IntKind.max, IntKind.bits, IntKind.signed] at h
  exact ⟨x.toNat, by omega, by omega⟩
theorem set_same (l : List Nat) (k : Nat) : l.set k (gt l k ^^^ 0) = l := by
  rw [Nat.xor_zero]
  unfold gt
  by_cases h : k < l.length
  · rw [List.getD_eq_getElem?_getD, List.getElem?_eq_getElem h]; simp
  · rw [List.set_eq_of_length_le (by omega)]
theorem set_lt {l : List Nat} (h : ∀ j, gt l j < 256) (k v : Nat) (hv : v < 256) : ∀ j, gt (l.set k v) j < 256 := fun j => by
  by_cases hk : k < l.length
  · rw [gt_set _ _ _ _ hk]; split
    · exact hv
    · exact h j
  · rw [List.set_eq_of_length_le (by omega)]; exact h j
theorem openF_right {key ahead text : List Nat} (h1 : key.length = 32) (h2 : ahead.length ≤ 32768) (h3 : text.length ≤ 32768) :
    openF key ahead (hide (kS key) text ++ tg (kT key) ahead (hide (kS key) text)) = (text, 0) := by
  have hn : (hide (kS key) text ++ tg (kT key) ahead (hide (kS key) text)).length = text.length + 32 := by rw [List.length_append, tg_len, hide_len]
  rw [openF_ok (by rw [hn]; omega), ← openQ_eq]
  exact openQ_right

set_option maxHeartbeats 4000000 in
set_option maxRecDepth 100000 in
theorem boxBound_walk (K : Option Addr) (key : List Nat) (nk ck : Nat) (A : Option Addr) (ahead : List Nat) (na ca : Nat) (B : Option Addr) (text : List Nat) (nb cb : Nat) (O : Option Addr) (other : List Nat) (no co : Nat) (a4 a5 : Int) (w : World) (hT : Tabs w)
    (hK : Txt Any w K nk ck key) (hA : Txt Any w A na ca ahead) (hB : Txt Any w B nb cb text) (hO : Txt Any w O no co other) (w4 : (Lit.int .u16 a4).wf = true) (w5 : (Lit.int .u8 a5).wf = true) :
    Calls Tryd.prog 5 #[.slice K nk ck, .slice A na ca, .slice B nb cb, .slice O no co, .int .u16 a4, .int .u8 a5] w fun e w' => e = .returned (.bool true) ∧ Below w.heap.size w w' := by
  obtain ⟨z, rfl, hz⟩ := u16_wf w4
  obtain ⟨y, rfl, hy⟩ := u8_wf w5
  have hlt := hT.lt
  have HT := Lib.hid hT; have HK := Lib.hid hK; have HA := Lib.hid hA; have HB := Lib.hid hB; have HOO := Lib.hid hO; clear hT hK hA hB hO w4 w5
  go_enter Tryd.func5, Tryd.ntmps5
  go_wp2_with fail
  refine (head_any w HT.out).mono ?_
  rintro e' w1 ⟨rfl, hB1⟩
  have HB1 := Lib.hid hB1; clear hB1
  go_wp2_with fail
  by_cases hbad : ¬ nk = 32 ∨ 32768 < na ∨ 32768 < nb
  · refine (close_bad K A B nk ck na ca nb cb w1 hbad).mono ?_
    rintro e' w2 ⟨rfl, rfl⟩
    by_cases h1 : nk = 32
    · rw [if_pos h1]
      clear hbad h1
      go_wp2
      go_ret
      exact ⟨rfl, HB1.out⟩
    · rw [if_neg h1]
      clear hbad h1
      go_wp2
      go_ret
      exact ⟨rfl, HB1.out⟩
  obtain rfl : nk = 32 := by omega
  have hma : na ≤ 32768 := by omega
  have hmb : nb ≤ 32768 := by omega
  clear hbad
  obtain ⟨h, hh⟩ : ∃ h, hide (kS key) text = h := ⟨_, rfl⟩
  obtain ⟨t, ht⟩ : ∃ t, tg (kT key) ahead h = t := ⟨_, rfl⟩
  have HH := Lib.hid hh; have HTT := Lib.hid ht
  obtain ⟨c, hc⟩ : ∃ c, h ++ t = c := ⟨_, rfl⟩
  obtain ⟨L, hL⟩ : ∃ L, c.length = L := ⟨_, rfl⟩
  have hL0 : L = nb + 32 := by rw [← hL, ← hc, List.length_append, ← ht, tg_len, ← hh, hide_len, HB.out.len]
  have HCL : Hid (∀ j, gt c j < 256) := Lib.hid (by rw [← hc, ← ht, ← hh]; exact gt_append_lt (hide_lt _ HB.out.lt) (tg_lt _ _ _))
  have HRIGHT : Hid (openF key ahead c = (text, 0)) := Lib.hid (by rw [← hc, ← ht, ← hh]; exact openF_right HK.out.len (by rw [HA.out.len]; exact hma) (by rw [HB.out.len]; exact hmb))
  have hL1 : 32 ≤ L := by omega
  have hL2 : L ≤ 32800 := by omega
  clear hL0 hh ht
  refine (close_own K A B key ahead text ck na ca nb cb w1 (HT.out.below HB1.out hlt) (HK.out.below HB1.out) (HA.out.below HB1.out) (HB.out.below HB1.out) hma hmb h t HH HTT).mono ?_
  rw [hc, hL]
  rintro e' w2 ⟨C, q, rfl, hO2, hB2⟩
  have HO2 := Lib.hid (Kec.own_down hO2 HB1.out.size); have HB2 := Lib.hid (HB1.out.trans (hB2.mono HB1.out.size))
  have HLE := Lib.hid hL
  clear hO2 hB2 hc hL HH HTT
  have y1 : ¬ (L : Int) < 32 := by omega
  go_wp2_with fail
  by_cases g0 : 40000 < no
  · refine (great_yes O no co w2 g0).mono ?_
    rintro e' w2' ⟨rfl, rfl⟩
    have y2 : (32768 : Int) < (no : Int) := by omega
    clear g0
    go_wp2
    go_ret
    exact ⟨rfl, HB2.out⟩
  refine (great_no O no co w2 g0).mono ?_
  rintro e' w2' ⟨rfl, rfl⟩
  clear g0
  by_cases g1 : 32768 < no
  · have y2 : (32768 : Int) < (no : Int) := by omega
    clear g1
    go_wp2
    go_ret
    exact ⟨rfl, HB2.out⟩
  have y2 : ¬ (32768 : Int) < (no : Int) := by omega
  have hmo : no ≤ 32768 := by omega
  clear g1
  obtain ⟨g, rfl⟩ : ∃ g, C = some ⟨g, 0, none⟩ := by
    rcases HO2.out.2 with ⟨e, _⟩ | ⟨g, _, _, e, _⟩
    · injection e with _ e _; omega
    · injection e with e _ _; exact ⟨g, e⟩
  obtain ⟨k, hk1, hk2, hkl⟩ : ∃ k : Nat, (z : Int) % (L : Int) = (k : Int) ∧ (z : Int).tmod (L : Int) = (k : Int) ∧ k < L := ⟨z % L, by omega, by rw [Int.tmod_eq_emod_of_nonneg (by omega)]; omega, Nat.mod_lt _ (by omega)⟩
  obtain ⟨c0, f0, hg⟩ := own_at HO2.out k hkl
  have hx := Sha.xor_bits8 (HCL.out k) hy
  have yp : ¬ (L : Int) = 0 := by omega
  have HS := Lib.hid (own_set HO2.out k (gt c k ^^^ y) hkl)
  have HD : Hid (∀ j, gt (c.set k (gt c k ^^^ y)) j < 256) := Lib.hid (set_lt HCL.out k _ (xor256 (HCL.out k) hy))
  have HB3 := Lib.hid (HB2.out.setCell (p := ⟨g, k, none⟩) hg (.int .u8 ((gt c k ^^^ y : Nat) : Int)))
  go_wp2
  go_region
  have HB3' := Lib.hid HB3.out.drew
  obtain ⟨c', hc'⟩ : ∃ c', c.set k (gt c k ^^^ y) = c' := ⟨_, rfl⟩
  have HX3 : Hid (Txt Any (w2.setCell ⟨g, k, none⟩ (.int .u8 ((gt c k ^^^ y : Nat) : Int))).drew (some ⟨g, 0, none⟩) L q c') := Lib.hid (by
    have h := HS.out
    have hd := HD.out
    rw [hc'] at h hd
    obtain ⟨_, _, e, hX⟩ := Txt.of_own h hd
    injection e with e1 _ e3
    subst e1 e3
    exact hX.any.drew)
  have HCC := Lib.hid hc'
  obtain ⟨w3, hw3⟩ : ∃ w3, (w2.setCell ⟨g, k, none⟩ (.int .u8 ((gt c k ^^^ y : Nat) : Int))).drew = w3 := ⟨_, rfl⟩
  rw [hw3] at HX3 HB3'
  rw [hw3]
  obtain ⟨⟨lx, ex⟩, hrx⟩ : ∃ r, openF key other c' = r := ⟨_, rfl⟩
  have HRX := Lib.hid hrx
  clear hrx hw3 hc' HS HD HB3 HO2 c0 f0 hx hk1 hk2 yp y1 y2
  go_wp2_with fail
  refine (open_any K O (some ⟨g, 0, none⟩) key other c' 32 ck no co L q w3 (HT.out.below HB3'.out hlt) (HK.out.below HB3'.out) (HOO.out.below HB3'.out) HX3.out _ HRX).mono ?_
  rintro e' w4 ⟨A4, n4, c4, rfl, hX4, hB4⟩
  have HX4 := Lib.hid hX4.any; have HX34 := Lib.hid (HX3.out.below hB4); have HB4 := Lib.hid (HB3'.out.trans (hB4.mono HB3'.out.size))
  clear hX4 hB4 HX3
  go_wp2_with fail
  refine (ropen_any K O (some ⟨g, 0, none⟩) key other c' 32 ck no co L q w4 (by have := HB4.out.size; omega) (HK.out.below HB4.out) (HOO.out.below HB4.out) HX34.out _ HRX).mono ?_
  rintro e' w5 ⟨A5, n5, c5, rfl, hX5, hB5⟩
  have HB5 := Lib.hid (HB4.out.trans (hB5.mono HB4.out.size))
  have hcv4 := (HX4.out.below hB5).conv
  have hcv5 := hX5.conv
  clear hX5 hB5 HX34 HX4
  by_cases hy0 : y = 0
  · subst hy0
    by_cases hoa : other = ahead
    · subst hoa
      have hcc : c' = c := by rw [← HCC.out]; exact set_same c k
      have hex : ex = 0 := by
        have h1 := HRX.out
        rw [hcc, HRIGHT.out] at h1
        injection h1 with _ h1; exact h1.symm
      subst hex
      have hcvo := (HOO.out.below HB5.out).conv
      have hcva := (HA.out.below HB5.out).conv
      clear HRIGHT
      go_wp2
      go_ret
      exact ⟨by simp, HB5.out⟩
    · have hcvo := (HOO.out.below HB5.out).conv
      have hcva := (HA.out.below HB5.out).conv
      have hbeq := txt_beq HOO.out.lt HA.out.lt
      rw [decide_eq_false hoa] at hbeq
      clear hoa HRIGHT
      go_wp2
      go_ret
      exact ⟨by simp, HB5.out⟩
  · have y5 : ((y : Int) != 0) = true := by rw [bne_iff_ne]; omega
    clear hy0 HRIGHT
    go_wp2
    go_ret
    exact ⟨by simp, HB5.out⟩
end Go.Proofs.YtfhibjpkbbbfpaaDoor.Bx
