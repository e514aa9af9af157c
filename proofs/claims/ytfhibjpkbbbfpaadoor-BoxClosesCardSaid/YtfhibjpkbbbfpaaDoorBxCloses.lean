/- Walks: BoxCloses (where tags whose own tags are alike are alike). -/
import Derived.Test.YtfhibjpkbbbfpaaDoorBxAny
namespace Go.Proofs.YtfhibjpkbbbfpaaDoor.Bx
set_option linter.all false
open Go.RowKit Wr

theorem great_yes (A : Option Addr) (n c : Nat) (w : World) (h : 40000 < n) : Calls Tryd.prog 8 #[.slice A n c] w fun e w' => e = .returned (.bool true) ∧ w = w' :=
  (great_any A n c w).mono fun _ _ ⟨e, hw⟩ => ⟨by rw [e, decide_eq_true h], hw⟩
theorem great_no (A : Option Addr) (n c : Nat) (w : World) (h : ¬ 40000 < n) : Calls Tryd.prog 8 #[.slice A n c] w fun e w' => e = .returned (.bool false) ∧ w = w' :=
  (great_any A n c w).mono fun _ _ ⟨e, hw⟩ => ⟨by rw [e, decide_eq_false h], hw⟩
theorem inc_byte {x : Nat} : IntKind.u8.wrap ((x : Int) + 1) = (((x + 1) % 256 : Nat) : Int) := by rw [IntKind.wrap_u8]; omega

set_option maxHeartbeats 4000000 in
set_option maxRecDepth 100000 in
theorem boxCloses_walk (K : Option Addr) (key : List Nat) (nk ck : Nat) (A : Option Addr) (ahead : List Nat) (na ca : Nat) (B : Option Addr) (text : List Nat) (nb cb : Nat) (D : Option Addr) (closed : List Nat) (nd cd : Nat) (w : World) (hT : Tabs w)
    (hK : Txt Any w K nk ck key) (hA : Txt Any w A na ca ahead) (hB : Txt Any w B nb cb text) (hD : Txt Any w D nd cd closed) :
    Calls Tryd.prog 3 #[.slice K nk ck, .slice A na ca, .slice B nb cb, .slice D nd cd] w fun e w' => e = .returned (.bool true) ∧ Below w.heap.size w w' := by
  have hlt := hT.lt
  have HT := Lib.hid hT; have HK := Lib.hid hK; have HA := Lib.hid hA; have HB := Lib.hid hB; have HD := Lib.hid hD; clear hT hK hA hB hD
  go_enter Tryd.func3, Tryd.ntmps3
  go_wp2_with fail
  refine (head_any w HT.out).mono ?_
  rintro e' w1 ⟨rfl, hB1⟩
  have HB1 := Lib.hid hB1; clear hB1
  go_wp2_with fail
  by_cases g0 : 40000 < nk
  · refine (great_yes K nk ck w1 g0).mono ?_
    rintro e' w1' ⟨rfl, rfl⟩
    go_wp2
    go_ret
    exact ⟨rfl, HB1.out⟩
  refine (great_no K nk ck w1 g0).mono ?_
  rintro e' w1' ⟨rfl, rfl⟩
  go_wp2_with fail
  by_cases g1 : 40000 < na
  · refine (great_yes A na ca w1 g1).mono ?_
    rintro e' w1' ⟨rfl, rfl⟩
    go_wp2
    go_ret
    exact ⟨rfl, HB1.out⟩
  refine (great_no A na ca w1 g1).mono ?_
  rintro e' w1' ⟨rfl, rfl⟩
  go_wp2_with fail
  by_cases g2 : 40000 < nb
  · refine (great_yes B nb cb w1 g2).mono ?_
    rintro e' w1' ⟨rfl, rfl⟩
    go_wp2
    go_ret
    exact ⟨rfl, HB1.out⟩
  refine (great_no B nb cb w1 g2).mono ?_
  rintro e' w1' ⟨rfl, rfl⟩
  go_wp2_with fail
  by_cases g3 : 40000 < nd
  · refine (great_yes D nd cd w1 g3).mono ?_
    rintro e' w1' ⟨rfl, rfl⟩
    go_wp2
    go_ret
    exact ⟨rfl, HB1.out⟩
  refine (great_no D nd cd w1 g3).mono ?_
  rintro e' w1' ⟨rfl, rfl⟩
  have hmb : nb ≤ 40000 := by omega
  have hmd : nd ≤ 40000 := by omega
  clear g0 g1 g2 g3
  have HO0 := Lib.hid (laid_built w1 [] #[] 0 rfl rfl (by omega))
  have HBa := Lib.hid (HB1.out.alloc HB1.out.size (.cells #[] 5))
  go_wp2_with (at_builtin; refine wpList_append_txt rfl (.tmp 38) (.tmp 39) rfl w1.heap.size 0 nb cb _ [] text B Any rfl rfl HO0.out (HB.out.below HBa.out) (by omega) (by simp) ?_)
  intro v2 w2 hown hgrow hat
  obtain ⟨C2, q2, rfl⟩ := own_slice_of hown
  have HO2 := Lib.hid hown
  have HB2 := Lib.hid (below_own HBa.out HO0.out HB1.out.size hgrow)
  have HL2 : Hid (∀ g, (Value.slice C2 nb q2).ownBlock = some g → g < w2.heap.size) := Lib.hid fun g e => (hown.lt g e).2
  have hs2 : w1.heap.size ≤ w2.heap.size := Nat.le_trans (by simp) hgrow.size
  clear hown hgrow hat HO0 HBa
  have HO3 := Lib.hid (laid_built w2 [] #[] 0 rfl rfl (by omega))
  have HBb := Lib.hid (HB2.out.alloc HB2.out.size (.cells #[] 5))
  have HO2b := Lib.hid (Sha.own_gen HO2.out ((Below.refl w2.heap.size w2).alloc (Nat.le_refl _) (.cells #[] 5)))
  go_wp2_with (at_builtin; refine wpList_append_txt rfl (.tmp 41) (.tmp 42) rfl w2.heap.size 0 nd cd _ [] closed D Any rfl rfl HO3.out (HD.out.below HBb.out) (by omega) (by simp) ?_)
  intro v4 w4 hown hgrow hat
  obtain ⟨C4, q4, rfl⟩ := own_slice_of hown
  have HO4 := Lib.hid hown
  have HB4 := Lib.hid (below_own HBb.out HO3.out HB2.out.size hgrow)
  have HO2c := Lib.hid (Sha.own_apart HO2b.out (g := w2.heap.size) hgrow (fun g' e => by have := HL2.out g' e; omega))
  have hs4 : w2.heap.size ≤ w4.heap.size := Nat.le_trans (by simp) hgrow.size
  have HL4 : Hid (∀ g, (Value.slice C4 nd q4).ownBlock = some g → w2.heap.size ≤ g ∧ g < w4.heap.size) := Lib.hid fun g e => hown.lt g e
  clear hown hgrow hat HO3 HBb HO2 HO2b
  obtain ⟨lo, hlo⟩ : ∃ lo, w4.heap.size = lo := ⟨_, rfl⟩
  obtain ⟨b1, hb1⟩ : ∃ b, w1.heap.size = b := ⟨_, rfl⟩
  obtain ⟨b2, hb2⟩ : ∃ b, w2.heap.size = b := ⟨_, rfl⟩
  rw [hlo] at HL4 hs4
  rw [hb1] at HO2c hs2
  rw [hb2] at HO4 HL2 HL4 hs2 hs4
  have hwb : w.heap.size ≤ b1 := by rw [← hb1]; exact HB1.out.size
  clear hb1 hb2
  obtain ⟨⟨la, ea⟩, hra⟩ : ∃ r, closeP key ahead text = r := ⟨_, rfl⟩
  obtain ⟨⟨lx, ex⟩, hrx⟩ : ∃ r, openF key ahead closed = r := ⟨_, rfl⟩
  have HRA := Lib.hid hra; have HRX := Lib.hid hrx; clear hra hrx
  have HT2 : Hid (Txt Any w4 C2 nb q2 text) := Lib.hid (by
    obtain ⟨_, _, e, h⟩ := Txt.of_own HO2c.out HB.out.lt
    injection e with e1 _ e3
    subst e1 e3; exact h.any)
  have HT4 : Hid (Txt Any w4 C4 nd q4 closed) := Lib.hid (by
    obtain ⟨_, _, e, h⟩ := Txt.of_own HO4.out HD.out.lt
    injection e with e1 _ e3
    subst e1 e3; exact h.any)
  go_wp2_with fail
  refine (close_any K A C2 key ahead text nk ck na ca nb q2 w4 (HT.out.below HB4.out hlt) (HK.out.below HB4.out) (HA.out.below HB4.out) HT2.out _ HRA).mono ?_
  rintro e' w5 ⟨A5, n5, c5, rfl, hX5, hB5⟩
  have HX5 := Lib.hid (hX5.mono (S' := fun b => lo ≤ b) fun b hb => by rw [← hlo]; exact hb.1)
  have HO2d := Lib.hid (Sha.own_gen HO2c.out hB5); have HO4d := Lib.hid (Sha.own_gen HO4.out hB5); have HT4' := Lib.hid (HT4.out.below hB5)
  have hs5 : lo ≤ w5.heap.size := by rw [← hlo]; exact hB5.size
  have HB5 := Lib.hid (HB4.out.trans (hB5.mono HB4.out.size))
  clear hX5 hB5 HO2c HO4 HT2 HT4
  go_wp2_with fail
  refine (open_any K A C4 key ahead closed nk ck na ca nd q4 w5 (HT.out.below HB5.out hlt) (HK.out.below HB5.out) (HA.out.below HB5.out) HT4'.out _ HRX).mono ?_
  rintro e' w6 ⟨A6, n6, c6, rfl, hX6, hB6⟩
  have HX6 := Lib.hid (hX6.mono (S' := fun b => lo ≤ b) fun b hb => by have := hb.1; omega)
  have HX5' := Lib.hid (HX5.out.below hB6)
  have HO2e := Lib.hid (Sha.own_gen HO2d.out hB6); have HO4e := Lib.hid (Sha.own_gen HO4d.out hB6)
  have HB6 := Lib.hid (HB5.out.trans (hB6.mono HB5.out.size))
  clear hX6 hB6 HO2d HO4d HT4' HX5
  go_wp2
  go_loopw [16] (fun i W => ∃ (k : Nat) (xs : List Nat), k ≤ nb ∧ i = .int .i64 k ∧ Hid (W.ownsRow b1 5 1 (.slice C2 nb q2) nb (bcells xs)) ∧ Hid (W.ownsRow b2 5 1 (.slice C4 nd q4) nd (bcells closed)) ∧ Hid (Txt (fun b => lo ≤ b) W A5 n5 c5 la) ∧ Hid (Txt (fun b => lo ≤ b) W A6 n6 c6 lx) ∧ Hid (Below w.heap.size w W)) (fun i _ => nb - (intOf i).toNat)
  case atStart => exact ⟨0, text, by omega, rfl, HO2e, HO4e, HX5', HX6, HB6⟩
  case round =>
    obtain ⟨k, xs, hk, rfl, HR2, HR4, HY5, HY6, HBk⟩ := hrel
    by_cases hkn : k < nb
    · obtain ⟨g, rfl⟩ : ∃ g, C2 = some ⟨g, 0, none⟩ := by
        rcases HR2.out.2 with ⟨e, _⟩ | ⟨g, _, _, e, _⟩
        · injection e with _ e _; omega
        · injection e with e _ _; exact ⟨g, e⟩
      obtain ⟨c0, f0, hg⟩ := own_at HR2.out k hkn
      have hg2 := HL2.out g rfl
      have hinc := inc_byte (x := gt xs k)
      have yk : (k : Int) < (nb : Int) := by omega
      have hne : ∀ b, lo ≤ b → ∀ v, (wr.setCell ⟨g, k, none⟩ v).heap[b]? = wr.heap[b]? := fun b hb v => Below.heap_setCell wr _ v b (fun e => by have e : b = g := e; omega)
      have HNE := Lib.hid hne
      have HR4' : Hid (∀ v, (wr.setCell ⟨g, k, none⟩ v).ownsRow b2 5 1 (.slice C4 nd q4) nd (bcells closed)) := Lib.hid fun v => by
        have hgr := only_set (World.grownBy.refl wr (some g)) (p := ⟨g, k, none⟩) (.inl rfl) v
        exact Sha.own_apart HR4.out hgr (fun g' e => by have := (HL4.out g' e).1; omega)
      clear hne
      go_wp2
      go_roundw
      case rel => exact ⟨k + 1, _, by omega, by go_num, Lib.hid (own_set HR2.out k _ hkn), Lib.hid (HR4'.out _), Lib.hid (HY5.out.kept (by simp [World.setCell]) fun b hb _ => HNE.out b hb _), Lib.hid (HY6.out.kept (by simp [World.setCell]) fun b hb _ => HNE.out b hb _), Lib.hid (HBk.out.setCell (by show w.heap.size ≤ g; omega) _)⟩
      case measure => simp [intOf]; omega
    · obtain rfl : k = nb := by omega
      clear hkn HR2
      go_wp2
      go_loopw [17] (fun i W => ∃ (k : Nat) (xs : List Nat), k ≤ nd ∧ i = .int .i64 k ∧ Hid (W.ownsRow b2 5 1 (.slice C4 nd q4) nd (bcells xs)) ∧ Hid (Txt (fun b => lo ≤ b) W A5 n5 c5 la) ∧ Hid (Txt (fun b => lo ≤ b) W A6 n6 c6 lx) ∧ Hid (Below w.heap.size w W)) (fun i _ => nd - (intOf i).toNat)
      case atStart => exact ⟨0, closed, by omega, rfl, HR4, HY5, HY6, HBk⟩
      case round =>
        obtain ⟨j, ys, hj, rfl, HR4, HY5, HY6, HBj⟩ := hrel
        by_cases hjn : j < nd
        · obtain ⟨g, rfl⟩ : ∃ g, C4 = some ⟨g, 0, none⟩ := by
            rcases HR4.out.2 with ⟨e, _⟩ | ⟨g, _, _, e, _⟩
            · injection e with _ e _; omega
            · injection e with e _ _; exact ⟨g, e⟩
          obtain ⟨c0, f0, hg⟩ := own_at HR4.out j hjn
          have hg2 := (HL4.out g rfl).2
          have hinc := inc_byte (x := gt ys j)
          have yk : (j : Int) < (nd : Int) := by omega
          have HNE : Hid (∀ b, lo ≤ b → ∀ v, (wr.setCell ⟨g, j, none⟩ v).heap[b]? = wr.heap[b]?) := Lib.hid fun b hb v => Below.heap_setCell wr _ v b (fun e => by have e : b = g := e; omega)
          go_wp2
          go_roundw
          case rel => exact ⟨j + 1, _, by omega, by go_num, Lib.hid (own_set HR4.out j _ hjn), Lib.hid (HY5.out.kept (by simp [World.setCell]) fun b hb _ => HNE.out b hb _), Lib.hid (HY6.out.kept (by simp [World.setCell]) fun b hb _ => HNE.out b hb _), Lib.hid (HBj.out.setCell (by show w.heap.size ≤ g; omega) _)⟩
          case measure => simp [intOf]; omega
        · obtain rfl : j = nd := by omega
          clear hjn HR4
          go_wp2_with fail
          refine (rclose_any K A B key ahead text nk ck na ca k cb wr (by have := HBj.out.size; omega) (HK.out.below HBj.out) (HA.out.below HBj.out) (HB.out.below HBj.out) _ HRA).mono ?_
          rintro e' w7 ⟨A7, n7, c7, rfl, hX7, hB7⟩
          have HZ5 := Lib.hid (HY5.out.below hB7); have HZ6 := Lib.hid (HY6.out.below hB7)
          have HX7 := Lib.hid hX7.any
          have HB7 := Lib.hid (HBj.out.trans (hB7.mono HBj.out.size))
          clear hX7 hB7 HY5 HY6
          go_wp2_with fail
          refine (ropen_any K A D key ahead closed nk ck na ca j cd w7 (by have := HB7.out.size; omega) (HK.out.below HB7.out) (HA.out.below HB7.out) (HD.out.below HB7.out) _ HRX).mono ?_
          rintro e' w8 ⟨A8, n8, c8, rfl, hX8, hB8⟩
          have hcv5 := (HZ5.out.below hB8).conv
          have hcv6 := (HZ6.out.below hB8).conv
          have hcv7 := (HX7.out.below hB8).conv
          have hcv8 := hX8.conv
          have HB8 := Lib.hid (HB7.out.trans (hB8.mono HB7.out.size))
          clear hX8 hB8
          go_wp2
          go_ret
          exact ⟨by simp, HB8.out⟩
end Go.Proofs.YtfhibjpkbbbfpaaDoor.Bx
