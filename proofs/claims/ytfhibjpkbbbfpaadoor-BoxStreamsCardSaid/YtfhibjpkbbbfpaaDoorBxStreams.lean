/- Walks: BoxStreams. -/
import Derived.Test.YtfhibjpkbbbfpaaDoorBxHead
namespace Go.Proofs.YtfhibjpkbbbfpaaDoor.Bx
set_option linter.all false
open Go.RowKit Wr

theorem xor_both (s a b : Nat) : (s ^^^ a) ^^^ (s ^^^ b) = a ^^^ b := by
  rw [Nat.xor_comm s a, Nat.xor_assoc, ← Nat.xor_assoc s s b, Nat.xor_self, Nat.zero_xor]
theorem gt_hide {ks b : List Nat} {n k : Nat} (hb : b.length = n) (hk : k < n) : gt (hide ks b) k = gt (strm ks n) k ^^^ gt b k := by
  subst hb; unfold hide xr; rw [gt_tab _ _ _ hk]

set_option maxHeartbeats 4000000 in
set_option maxRecDepth 100000 in
theorem boxStreams_walk (K : Option Addr) (key : List Nat) (nk ck : Nat) (A : Option Addr) (a : List Nat) (na ca : Nat) (B : Option Addr) (b : List Nat) (nb cb : Nat) (H : Option Addr) (ahead : List Nat) (nh ch : Nat) (w : World) (hT : Tabs w)
    (hK : Txt Any w K nk ck key) (hA : Txt Any w A na ca a) (hB : Txt Any w B nb cb b) (hH : Txt Any w H nh ch ahead) :
    Calls Tryd.prog 6 #[.slice K nk ck, .slice A na ca, .slice B nb cb, .slice H nh ch] w fun e w' => e = .returned (.bool true) ∧ Below w.heap.size w w' := by
  have hlt := hT.lt
  have HT := Lib.hid hT; have HK := Lib.hid hK; have HA := Lib.hid hA; have HB := Lib.hid hB; have HH := Lib.hid hH; clear hT hK hA hB hH
  go_enter Tryd.func6, Tryd.ntmps6
  go_wp2_with fail
  refine (head_any w HT.out).mono ?_
  rintro e' w1 ⟨rfl, hB1⟩
  have HB1 := Lib.hid hB1; clear hB1
  by_cases h1 : nk = 32
  case neg =>
    have y1 : ((nk : Int) != 32) = true := by rw [bne_iff_ne]; omega
    clear h1
    go_wp2
    go_ret
    exact ⟨rfl, HB1.out⟩
  subst h1
  by_cases h2 : na = nb
  case neg =>
    have y2 : ((na : Int) != (nb : Int)) = true := by rw [bne_iff_ne]; omega
    clear h2
    go_wp2
    go_ret
    exact ⟨rfl, HB1.out⟩
  subst h2
  by_cases h3 : 32768 < na
  · have y3 : (32768 : Int) < (na : Int) := by omega
    clear h3
    go_wp2
    go_ret
    exact ⟨rfl, HB1.out⟩
  have y3 : ¬ (32768 : Int) < (na : Int) := by omega
  by_cases h4 : 32768 < nh
  · have y4 : (32768 : Int) < (nh : Int) := by omega
    clear h3 h4
    go_wp2
    go_ret
    exact ⟨rfl, HB1.out⟩
  have y4 : ¬ (32768 : Int) < (nh : Int) := by omega
  have hma : na ≤ 32768 := by omega
  have hmh : nh ≤ 32768 := by omega
  clear h3 h4
  obtain ⟨h, hh⟩ : ∃ h, hide (kS key) a = h := ⟨_, rfl⟩
  obtain ⟨t, ht⟩ : ∃ t, tg (kT key) [] h = t := ⟨_, rfl⟩
  obtain ⟨i, hi⟩ : ∃ h, hide (kS key) b = h := ⟨_, rfl⟩
  obtain ⟨u, hu⟩ : ∃ t, tg (kT key) ahead i = t := ⟨_, rfl⟩
  have HN1 : Hid ((h ++ t).length = na + 32) := Lib.hid (by rw [List.length_append, ← ht, tg_len, ← hh, hide_len, HA.out.len])
  have HN2 : Hid ((i ++ u).length = na + 32) := Lib.hid (by rw [List.length_append, ← hu, tg_len, ← hi, hide_len, HB.out.len])
  have HG1 : Hid (∀ k, k < na → gt (h ++ t) k = gt (strm (kS key) na) k ^^^ gt a k) := Lib.hid fun k hk => by
    rw [gt_append, if_pos (by rw [← hh, hide_len, HA.out.len]; exact hk), ← hh]; exact gt_hide HA.out.len hk
  have HG2 : Hid (∀ k, k < na → gt (i ++ u) k = gt (strm (kS key) na) k ^^^ gt b k) := Lib.hid fun k hk => by
    rw [gt_append, if_pos (by rw [← hi, hide_len, HB.out.len]; exact hk), ← hi]; exact gt_hide HB.out.len hk
  have HHH := Lib.hid hh; have HTT := Lib.hid ht; have HII := Lib.hid hi; have HUU := Lib.hid hu
  clear hh ht hi hu
  go_wp2_with fail
  refine (close_ok K none A key [] a ck 0 0 na ca w1 (HT.out.below HB1.out hlt) (HK.out.below HB1.out) (Txt.nil _ _) (HA.out.below HB1.out) (by omega) hma h t HHH HTT).mono ?_
  rintro e' w2 ⟨A2, n2, c2, rfl, hX2, hB2⟩
  obtain rfl : n2 = na + 32 := by rw [← hX2.len]; exact HN1.out
  have HX2 := Lib.hid hX2.any; have HB2 := Lib.hid (HB1.out.trans (hB2.mono HB1.out.size))
  clear hX2 hB2
  go_wp2_with fail
  refine (close_ok K H B key ahead b ck nh ch na cb w2 (HT.out.below HB2.out hlt) (HK.out.below HB2.out) (HH.out.below HB2.out) (HB.out.below HB2.out) hmh hma i u HII HUU).mono ?_
  rintro e' w3 ⟨A3, n3, c3, rfl, hX3, hB3⟩
  obtain rfl : n3 = na + 32 := by rw [← hX3.len]; exact HN2.out
  have HX2' := Lib.hid (HX2.out.below hB3)
  have HX3 := Lib.hid hX3.any; have HB3 := Lib.hid (HB2.out.trans (hB3.mono HB2.out.size))
  clear hX3 hB3 HX2
  go_wp2
  go_loopw [14] (fun j W => ∃ k : Nat, k ≤ na ∧ j = .int .i64 k ∧ Hid (Below w3.heap.size w3 W)) (fun j _ => na - (intOf j).toNat)
  case atStart => exact ⟨0, by omega, rfl, Lib.hid (Below.refl _ _)⟩
  case round =>
    obtain ⟨k, hk, rfl, HBk⟩ := hrel
    have HBw := Lib.hid (HB3.out.trans (HBk.out.mono HB3.out.size))
    by_cases hkn : k < na
    · obtain ⟨ad2, rfl⟩ := HX2'.out.some (by omega)
      obtain ⟨ad3, rfl⟩ := HX3.out.some (by omega)
      obtain ⟨ada, rfl⟩ := HA.out.some (by omega)
      obtain ⟨adb, rfl⟩ := HB.out.some (by omega)
      have c0 := (HX2'.out.below HBk.out).cell k (by omega)
      have c1' := (HX3.out.below HBk.out).cell k (by omega)
      have c2' := (HA.out.below HBw.out).cell k hkn
      have c3' := (HB.out.below HBw.out).cell k hkn
      obtain ⟨Z, hZ⟩ : ∃ Z, gt a k ^^^ gt b k = Z := ⟨_, rfl⟩
      have hx1 : bits .xor .u8 ((gt (h ++ t) k : Nat) : Int) ((gt (i ++ u) k : Nat) : Int) = ((Z : Nat) : Int) := by
        rw [Sha.xor_bits8 (HX2'.out.lt k) (HX3.out.lt k), HG1.out k hkn, HG2.out k hkn, xor_both, hZ]
      have hx2 : bits .xor .u8 ((gt a k : Nat) : Int) ((gt b k : Nat) : Int) = ((Z : Nat) : Int) := by rw [Sha.xor_bits8 (HA.out.lt k) (HB.out.lt k), hZ]
      have yk : (k : Int) < (na : Int) := by omega
      have HZZ := Lib.hid hZ
      clear hZ
      generalize gt (h ++ t) k = z1 at *
      generalize gt (i ++ u) k = z2 at *
      generalize gt a k = z3 at *
      generalize gt b k = z4 at *
      go_wp2
      go_region
      go_wp2
      go_roundw
      case rel => exact ⟨k + 1, by omega, by go_num, Lib.hid HBk.out.drew⟩
      case measure => simp [intOf]; omega
    · obtain rfl : k = na := by omega
      go_wp2
      go_ret
      exact ⟨rfl, HBw.out⟩
end Go.Proofs.YtfhibjpkbbbfpaaDoor.Bx
