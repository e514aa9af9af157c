/- Walks: what a text counts as, the joiner's secret, the sum of two texts: the program's and the document's. Written by tools/mk_scwalka.py. -/
import Derived.Test.YtikafijdfgkgkaaDoorScKit
namespace Go.Proofs.YtikafijdfgkgkaaDoor.Sc
set_option linter.all false
open Go.RowKit
open Wr (Txt TxtL Any New bcells gt own_slice_of below_own wpList_append_txt)

/-- a call tells a slice with these bytes, and leaves what was -/
def Got (bs : List Nat) (w : World) (e : Ending) (w' : World) : Prop := ∃ A n c, e = .returned (.slice A n c) ∧ Txt Any w' A n c bs ∧ Below w.heap.size w w'

set_option maxHeartbeats 1000000 in
theorem short_any (A : Option Addr) (b : List Nat) (n c : Nat) (w : World) (hT : Tabs w) (hX : Txt Any w A n c b) (hm : n ≤ 1000000) :
    Calls Tryd.prog 24 #[.slice A n c] w (Got (sh b) w) := by
  have hl := hX.2.1
  have HT := Lib.hid hT; have HX := Lib.hid hX
  by_cases h : 16000 < n
  · have y1 : (16000 : Int) < (n : Int) := by omega
    rw [sh_yes (by omega)]
    clear hT hX hl
    go_enter Tryd.func24, Tryd.ntmps24
    go_wp2_with fail
    refine (sum_any A b n c _ HT.out HX.out hm).mono ?_
    rintro e' w1 ⟨A1, n1, c1, rfl, hA, hb⟩
    have HA := Lib.hid hA; have HB := Lib.hid hb; clear hA hb
    go_wp2
    go_ret
    exact ⟨_, _, _, rfl, HA.out.any, HB.out⟩
  · have y1 : ¬ (16000 : Int) < (n : Int) := by omega
    rw [sh_no (by omega)]
    clear hT hX hl
    go_enter Tryd.func24, Tryd.ntmps24
    go_wp2
    go_ret
    exact ⟨_, _, _, rfl, HX.out, Below.refl _ _⟩

set_option maxHeartbeats 1000000 in
theorem rshort_any (A : Option Addr) (b : List Nat) (n c : Nat) (w : World) (hX : Txt Any w A n c b) (hm : n ≤ 100000) :
    Calls Tryd.prog 27 #[.slice A n c] w (Got (sh b) w) := by
  have hl := hX.2.1
  have HX := Lib.hid hX
  by_cases h : 16000 < n
  · have y1 : (16000 : Int) < (n : Int) := by omega
    rw [sh_yes (by omega)]
    clear hX hl
    go_enter Tryd.func27, Tryd.ntmps27
    go_wp2_with fail
    refine (rsum_any A b n c _ HX.out hm).mono ?_
    rintro e' w1 ⟨A1, n1, c1, rfl, hA, hb⟩
    have HA := Lib.hid hA; have HB := Lib.hid hb; clear hA hb
    go_wp2
    go_ret
    exact ⟨_, _, _, rfl, HA.out.any, HB.out⟩
  · have y1 : ¬ (16000 : Int) < (n : Int) := by omega
    rw [sh_no (by omega)]
    clear hX hl
    go_enter Tryd.func27, Tryd.ntmps27
    go_wp2
    go_ret
    exact ⟨_, _, _, rfl, HX.out, Below.refl _ _⟩

set_option maxHeartbeats 2000000 in
theorem joiner_any (A B C : Option Addr) (i c x : List Nat) (n1 c1 n2 c2 n3 c3 : Nat) (w : World) (hT : Tabs w) (hA : Txt Any w A n1 c1 i) (hB : Txt Any w B n2 c2 c) (hC : Txt Any w C n3 c3 x) (hm1 : n1 ≤ 1000000) (hm2 : n2 ≤ 1000000) (hm3 : n3 ≤ 1000000) :
    Calls Tryd.prog 10 #[.slice A n1 c1, .slice B n2 c2, .slice C n3 c3] w (Wr.Told (jn i c x) w) := by
  have T_w := Lib.hid (hT)
  have HA_w := Lib.hid (hA)
  have HB_w := Lib.hid (hB)
  have HC_w := Lib.hid (hC)
  have B_w := Lib.hid (Below.refl w.heap.size w)
  obtain ⟨r, hr⟩ : ∃ r, jn i c x = r := ⟨_, rfl⟩
  have HR : Hid (Unit → Sha.lab (Sha.mac (sh i) (sh c)) ⟨#[106, 111, 105, 110, 101, 114]⟩ (sh x) 32 = r) := Lib.hid (fun _ => hr)
  rw [hr]
  clear hr hA hB hC hT
  go_enter Tryd.func10, Tryd.ntmps10
  go_wp2_with fail
  refine (short_any A i n1 c1 _ T_w.out HA_w.out hm1).mono ?_
  rintro e' w1 ⟨A1, m1, d1, rfl, hX, hb⟩
  have X1_w1 := Lib.hid (hX)
  have T_w1 := Lib.hid (T_w.out.at hb)
  have HA_w1 := Lib.hid (HA_w.out.below hb)
  have HB_w1 := Lib.hid (HB_w.out.below hb)
  have HC_w1 := Lib.hid (HC_w.out.below hb)
  have B_w1 := Lib.hid (B_w.out.trans (hb.mono B_w.out.size))
  clear B_w T_w HA_w HB_w HC_w
  clear hX hb
  clear HA_w1
  go_wp2_with fail
  refine (short_any B c n2 c2 _ T_w1.out HB_w1.out hm2).mono ?_
  rintro e' w2 ⟨A2, m2, d2, rfl, hX, hb⟩
  have X2_w2 := Lib.hid (hX)
  have T_w2 := Lib.hid (T_w1.out.at hb)
  have HB_w2 := Lib.hid (HB_w1.out.below hb)
  have HC_w2 := Lib.hid (HC_w1.out.below hb)
  have X1_w2 := Lib.hid (X1_w1.out.below hb)
  have B_w2 := Lib.hid (B_w1.out.trans (hb.mono B_w1.out.size))
  clear B_w1 T_w1 HB_w1 HC_w1 X1_w1
  clear hX hb
  clear HB_w2
  have k1 : m1 ≤ 16000 := by rw [← X1_w2.out.2.1]; exact sh_len _
  have k2 : m2 ≤ 16000 := by rw [← X2_w2.out.2.1]; exact sh_len _
  go_wp2_with fail
  refine (extract_any A1 A2 (sh i) (sh c) m1 d1 m2 d2 _ T_w2.out X1_w2.out (by omega) X2_w2.out (by omega)).mono ?_
  rintro e' w3 ⟨A3, m3, d3, rfl, hX, hb⟩
  have X3_w3 := Lib.hid (hX.any)
  have T_w3 := Lib.hid (T_w2.out.at hb)
  have HC_w3 := Lib.hid (HC_w2.out.below hb)
  have X1_w3 := Lib.hid (X1_w2.out.below hb)
  have X2_w3 := Lib.hid (X2_w2.out.below hb)
  have B_w3 := Lib.hid (B_w2.out.trans (hb.mono B_w2.out.size))
  clear B_w2 T_w2 HC_w2 X1_w2 X2_w2
  clear hX hb
  clear X1_w3 X2_w3
  obtain rfl : m3 = 32 := by rw [← X3_w3.out.2.1]; exact Sha.mac_len _ _
  go_wp2_with fail
  refine (short_any C x n3 c3 _ T_w3.out HC_w3.out hm3).mono ?_
  rintro e' w4 ⟨A4, m4, d4, rfl, hX, hb⟩
  have X4_w4 := Lib.hid (hX)
  have T_w4 := Lib.hid (T_w3.out.at hb)
  have HC_w4 := Lib.hid (HC_w3.out.below hb)
  have X3_w4 := Lib.hid (X3_w3.out.below hb)
  have B_w4 := Lib.hid (B_w3.out.trans (hb.mono B_w3.out.size))
  clear B_w3 T_w3 HC_w3 X3_w3
  clear hX hb
  clear HC_w4
  go_wp2_with fail
  refine (label_any ⟨#[106, 111, 105, 110, 101, 114]⟩ A3 A4 (Sha.mac (sh i) (sh c)) (sh x) 32 d3 m4 d4 32 _ T_w4.out X3_w4.out (by omega) X4_w4.out).mono ?_
  rintro e' w5 ⟨A5, m5, d5, rfl, hX, hb⟩
  have X5_w5 := Lib.hid (txt_low hX B_w4.out.size)
  have T_w5 := Lib.hid (T_w4.out.at hb)
  have X3_w5 := Lib.hid (X3_w4.out.below hb)
  have X4_w5 := Lib.hid (X4_w4.out.below hb)
  have B_w5 := Lib.hid (B_w4.out.trans (hb.mono B_w4.out.size))
  clear B_w4 T_w4 X3_w4 X4_w4
  rw [HR.out ()] at X5_w5
  clear hX hb
  go_wp2
  go_ret
  exact ⟨_, _, _, rfl, X5_w5.out, B_w5.out⟩

set_option maxHeartbeats 2000000 in
theorem rjoiner_any (A B C : Option Addr) (i c x : List Nat) (n1 c1 n2 c2 n3 c3 : Nat) (w : World) (hA : Txt Any w A n1 c1 i) (hB : Txt Any w B n2 c2 c) (hC : Txt Any w C n3 c3 x) (hm1 : n1 ≤ 100000) (hm2 : n2 ≤ 100000) (hm3 : n3 ≤ 100000) :
    Calls Tryd.prog 11 #[.slice A n1 c1, .slice B n2 c2, .slice C n3 c3] w (Wr.Told (jn i c x) w) := by
  have HA_w := Lib.hid (hA)
  have HB_w := Lib.hid (hB)
  have HC_w := Lib.hid (hC)
  have B_w := Lib.hid (Below.refl w.heap.size w)
  obtain ⟨r, hr⟩ : ∃ r, jn i c x = r := ⟨_, rfl⟩
  have HR : Hid (Unit → Sha.lab (Sha.mac (sh i) (sh c)) ⟨#[106, 111, 105, 110, 101, 114]⟩ (sh x) 32 = r) := Lib.hid (fun _ => hr)
  rw [hr]
  clear hr hA hB hC
  go_enter Tryd.func11, Tryd.ntmps11
  go_wp2_with fail
  refine (rshort_any A i n1 c1 _ HA_w.out hm1).mono ?_
  rintro e' w1 ⟨A1, m1, d1, rfl, hX, hb⟩
  have X1_w1 := Lib.hid (hX)
  have HA_w1 := Lib.hid (HA_w.out.below hb)
  have HB_w1 := Lib.hid (HB_w.out.below hb)
  have HC_w1 := Lib.hid (HC_w.out.below hb)
  have B_w1 := Lib.hid (B_w.out.trans (hb.mono B_w.out.size))
  clear B_w HA_w HB_w HC_w
  clear hX hb
  clear HA_w1
  go_wp2_with fail
  refine (rshort_any B c n2 c2 _ HB_w1.out hm2).mono ?_
  rintro e' w2 ⟨A2, m2, d2, rfl, hX, hb⟩
  have X2_w2 := Lib.hid (hX)
  have HB_w2 := Lib.hid (HB_w1.out.below hb)
  have HC_w2 := Lib.hid (HC_w1.out.below hb)
  have X1_w2 := Lib.hid (X1_w1.out.below hb)
  have B_w2 := Lib.hid (B_w1.out.trans (hb.mono B_w1.out.size))
  clear B_w1 HB_w1 HC_w1 X1_w1
  clear hX hb
  clear HB_w2
  have k1 : m1 ≤ 16000 := by rw [← X1_w2.out.2.1]; exact sh_len _
  have k2 : m2 ≤ 16000 := by rw [← X2_w2.out.2.1]; exact sh_len _
  go_wp2_with fail
  refine (rextract_any A1 A2 (sh i) (sh c) m1 d1 m2 d2 _ X1_w2.out (by omega) X2_w2.out (by omega)).mono ?_
  rintro e' w3 ⟨A3, m3, d3, rfl, hX, hb⟩
  have X3_w3 := Lib.hid (hX.any)
  have HC_w3 := Lib.hid (HC_w2.out.below hb)
  have X1_w3 := Lib.hid (X1_w2.out.below hb)
  have X2_w3 := Lib.hid (X2_w2.out.below hb)
  have B_w3 := Lib.hid (B_w2.out.trans (hb.mono B_w2.out.size))
  clear B_w2 HC_w2 X1_w2 X2_w2
  clear hX hb
  clear X1_w3 X2_w3
  obtain rfl : m3 = 32 := by rw [← X3_w3.out.2.1]; exact Sha.mac_len _ _
  go_wp2_with fail
  refine (rshort_any C x n3 c3 _ HC_w3.out hm3).mono ?_
  rintro e' w4 ⟨A4, m4, d4, rfl, hX, hb⟩
  have X4_w4 := Lib.hid (hX)
  have HC_w4 := Lib.hid (HC_w3.out.below hb)
  have X3_w4 := Lib.hid (X3_w3.out.below hb)
  have B_w4 := Lib.hid (B_w3.out.trans (hb.mono B_w3.out.size))
  clear B_w3 HC_w3 X3_w3
  clear hX hb
  clear HC_w4
  go_wp2_with fail
  refine (rlabel_any ⟨#[106, 111, 105, 110, 101, 114]⟩ A3 A4 (Sha.mac (sh i) (sh c)) (sh x) 32 d3 m4 d4 32 _ X3_w4.out (by omega) X4_w4.out).mono ?_
  rintro e' w5 ⟨A5, m5, d5, rfl, hX, hb⟩
  have X5_w5 := Lib.hid (txt_low hX B_w4.out.size)
  have X3_w5 := Lib.hid (X3_w4.out.below hb)
  have X4_w5 := Lib.hid (X4_w4.out.below hb)
  have B_w5 := Lib.hid (B_w4.out.trans (hb.mono B_w4.out.size))
  clear B_w4 X3_w4 X4_w4
  rw [HR.out ()] at X5_w5
  clear hX hb
  go_wp2
  go_ret
  exact ⟨_, _, _, rfl, X5_w5.out, B_w5.out⟩

set_option maxHeartbeats 2000000 in
set_option maxRecDepth 100000 in
/-- a text's bytes, in a row of the call's own -/
theorem rtext_own (A : Option Addr) (s : List Nat) (n c : Nat) (w : World) (hA : Txt Any w A n c s) (h : n ≤ 1048576) (r : List Nat) (hr : Hid (Wr.txB s = r)) :
    Calls Tryd.prog 43 #[.slice A n c] w fun e w' => ∃ C cap, e = .returned (.tuple #[.slice C r.length cap, .int .i64 0]) ∧ w'.ownsRow w.heap.size 5 1 (.slice C r.length cap) r.length (bcells r) ∧ Below w.heap.size w w' := by
  have hl := hA.len
  have HA := Lib.hid hA
  have HR : Hid (Wr.lenB n ++ s = r) := Lib.hid (by rw [← hr.out]; unfold Wr.txB; rw [hl])
  have y1 : ¬ (1048576 : Int) < (n : Int) := by omega
  obtain ⟨k, hk, hk4⟩ : ∃ k, (Wr.lenB n).length = k ∧ k ≤ 4 := ⟨_, rfl, by rw [Wr.lenB_len]; exact (Wr.szB_pos n).2⟩
  obtain ⟨l, hl2⟩ : ∃ l, Wr.lenB n = l := ⟨_, rfl⟩
  have HLN := Lib.hid hl2
  rw [hl2] at hk HR
  have HRL : Hid (r.length = k + n) := Lib.hid (by rw [← HR.out, List.length_append, hk, hl])
  clear hl2
  go_enter Tryd.func43, Tryd.ntmps43
  go_wp2_with fail
  refine (Wr.rlength_any n w (by omega) l HLN).mono ?_
  rintro e' w1 ⟨h1, cap1, rfl, hO, hB⟩
  rw [hk] at hO ⊢
  have HO := Lib.hid hO; have HB := Lib.hid hB; clear hO hB hk
  have HA1 := Lib.hid (HA.out.below HB.out)
  go_wp2_with (at_builtin; refine wpList_append_txt rfl (.tmp 9) (.tmp 10) rfl w.heap.size k n c _ l s A Any rfl rfl HO.out HA1.out (by omega) HB.out.size ?_)
  intro v' W2 hown hgrow hat
  obtain ⟨C', c', rfl⟩ := own_slice_of hown
  have HB3 := Lib.hid (below_own HB.out HO.out (Nat.le_refl _) hgrow)
  rw [HR.out] at hown
  have HX := Lib.hid hown; clear hown hgrow hat
  go_wp2
  go_ret2
  exact ⟨_, _, by rw [HRL.out]; rfl, by rw [HRL.out]; exact HX.out, HB3.out⟩

set_option maxHeartbeats 2000000 in
set_option maxRecDepth 100000 in
theorem texts_any (A B : Option Addr) (a b : List Nat) (n1 c1 n2 c2 : Nat) (w : World) (hA : Txt Any w A n1 c1 a) (hB : Txt Any w B n2 c2 b) (hm1 : n1 ≤ 100000) (hm2 : n2 ≤ 100000) :
    Calls Tryd.prog 30 #[.slice A n1 c1, .slice B n2 c2] w (Wr.Told (sm a b) w) := by
  have HA := Lib.hid hA; have HB := Lib.hid hB
  obtain ⟨r, hr⟩ : ∃ r, sm a b = r := ⟨_, rfl⟩
  obtain ⟨x, hx⟩ : ∃ x, Wr.txB (sh a) = x := ⟨_, rfl⟩
  obtain ⟨y, hy⟩ : ∃ y, Wr.txB (sh b) = y := ⟨_, rfl⟩
  have HR : Hid (Unit → Sha.sum (x ++ y) = r) := Lib.hid (fun _ => by rw [← hx, ← hy]; exact hr)
  have HXE := Lib.hid hx; have HYE := Lib.hid hy
  have HXL : Hid (∀ j, gt x j < 256) := Lib.hid (by rw [← hx]; exact Wr.txB_lt (sh_lt hA.lt))
  have HYL : Hid (∀ j, gt y j < 256) := Lib.hid (by rw [← hy]; exact Wr.txB_lt (sh_lt hB.lt))
  have hxl : x.length ≤ 16004 := by rw [← hx, Wr.txB_len]; have := (Wr.szB_pos (sh a).length).2; have := sh_len a; omega
  have hyl : y.length ≤ 16004 := by rw [← hy, Wr.txB_len]; have := (Wr.szB_pos (sh b).length).2; have := sh_len b; omega
  rw [hr]
  clear hr hx hy hA hB
  go_enter Tryd.func30, Tryd.ntmps30
  go_wp2_with fail
  refine (rshort_any A a n1 c1 w HA.out hm1).mono ?_
  rintro e' w1 ⟨A1, m1, d1, rfl, hX, hb⟩
  have X1 := Lib.hid hX; have HB1 := Lib.hid hb; have HBt := Lib.hid (HB.out.below hb)
  have k1 : m1 ≤ 16000 := by rw [← hX.2.1]; exact sh_len _
  clear hX hb HA HB
  go_wp2_with fail
  refine (rtext_own A1 (sh a) m1 d1 w1 X1.out (by omega) x HXE).mono ?_
  rintro e' w2 ⟨C1, e1, rfl, hO, hb⟩
  obtain ⟨xn, hxn⟩ : ∃ xn, x.length = xn := ⟨_, rfl⟩
  rw [hxn] at hO hxl ⊢
  have O1 := Lib.hid (Sha.own_down hO HB1.out.size); have HB2 := Lib.hid (HB1.out.trans (hb.mono HB1.out.size)); have HBu := Lib.hid (HBt.out.below hb)
  clear hO hb HBt X1 hxn
  go_wp2_with fail
  refine (rshort_any B b n2 c2 w2 HBu.out hm2).mono ?_
  rintro e' w3 ⟨A2, m2, d2, rfl, hX, hb⟩
  have X2 := Lib.hid hX; have HB3 := Lib.hid (HB2.out.trans (hb.mono HB2.out.size)); have O2 := Lib.hid (Sha.own_gen O1.out hb)
  have k2 : m2 ≤ 16000 := by rw [← hX.2.1]; exact sh_len _
  clear hX hb HBu O1
  go_wp2_with fail
  refine (rtext_own A2 (sh b) m2 d2 w3 X2.out (by omega) y HYE).mono ?_
  rintro e' w4 ⟨C2, e2, rfl, hO, hb⟩
  obtain ⟨yn, hyn⟩ : ∃ yn, y.length = yn := ⟨_, rfl⟩
  rw [hyn] at hO hyl ⊢
  have O3 := Lib.hid (Sha.own_gen O2.out hb); have HB4 := Lib.hid (HB3.out.trans (hb.mono HB3.out.size))
  obtain ⟨A5, c5, e5, hX5⟩ := Txt.of_own hO HYL.out
  injection e5 with e5 _ e6
  subst e5 e6
  have X5 := Lib.hid hX5.any
  clear hX5 hO hb X2 O2 hyn
  go_wp2_with (at_builtin; refine wpList_append_txt rfl (.tmp 21) (.tmp 22) rfl w.heap.size xn yn _ _ x y _ Any rfl rfl O3.out X5.out (by omega) HB4.out.size ?_)
  intro v' w5 hown hgrow hat
  have HB5 := Lib.hid (below_own HB4.out O3.out (Nat.le_refl _) hgrow)
  obtain ⟨A6, c6, rfl, hX6⟩ := Txt.of_own hown (Wr.gt_append_lt HXL.out HYL.out)
  have X6 := Lib.hid hX6.any
  clear hown hgrow hat hX6 O3 X5
  go_wp2_with fail
  refine (rsum_any A6 (x ++ y) (xn + yn) c6 w5 X6.out (by omega)).mono ?_
  rintro e' w6 ⟨A7, m7, d7, rfl, hX, hb⟩
  rw [HR.out ()] at hX
  have X7 := Lib.hid (txt_low hX HB5.out.size); have HB6 := Lib.hid (HB5.out.trans (hb.mono HB5.out.size))
  clear hX hb
  go_wp2
  go_ret
  exact ⟨_, _, _, rfl, X7.out, HB6.out⟩

set_option maxHeartbeats 1000000 in
theorem rconfirmed_any (A B : Option Addr) (a b : List Nat) (n1 c1 n2 c2 : Nat) (w : World) (hA : Txt Any w A n1 c1 a) (hB : Txt Any w B n2 c2 b) (hm1 : n1 ≤ 100000) (hm2 : n2 ≤ 100000) :
    Calls Tryd.prog 16 #[.slice A n1 c1, .slice B n2 c2] w (Wr.Told (sm a b) w) := by
  have HA := Lib.hid hA; have HB := Lib.hid hB
  obtain ⟨r, hr⟩ : ∃ r, sm a b = r := ⟨_, rfl⟩
  have HC := Lib.hid (texts_any A B a b n1 c1 n2 c2 w hA hB hm1 hm2)
  rw [hr] at HC ⊢
  clear hr hA hB
  go_enter Tryd.func16, Tryd.ntmps16
  go_wp2_with fail
  refine HC.out.mono ?_
  rintro e' w1 ⟨A1, m1, d1, rfl, hX, hb⟩
  have X1 := Lib.hid hX; have HB1 := Lib.hid hb
  clear hX hb
  go_wp2
  go_ret
  exact ⟨_, _, _, rfl, X1.out, HB1.out⟩

set_option maxHeartbeats 1000000 in
theorem rinterim_any (A B : Option Addr) (a b : List Nat) (n1 c1 n2 c2 : Nat) (w : World) (hA : Txt Any w A n1 c1 a) (hB : Txt Any w B n2 c2 b) (hm1 : n1 ≤ 100000) (hm2 : n2 ≤ 100000) :
    Calls Tryd.prog 18 #[.slice A n1 c1, .slice B n2 c2] w (Wr.Told (sm a b) w) := by
  have HA := Lib.hid hA; have HB := Lib.hid hB
  obtain ⟨r, hr⟩ : ∃ r, sm a b = r := ⟨_, rfl⟩
  have HC := Lib.hid (texts_any A B a b n1 c1 n2 c2 w hA hB hm1 hm2)
  rw [hr] at HC ⊢
  clear hr hA hB
  go_enter Tryd.func18, Tryd.ntmps18
  go_wp2_with fail
  refine HC.out.mono ?_
  rintro e' w1 ⟨A1, m1, d1, rfl, hX, hb⟩
  have X1 := Lib.hid hX; have HB1 := Lib.hid hb
  clear hX hb
  go_wp2
  go_ret
  exact ⟨_, _, _, rfl, X1.out, HB1.out⟩

/-- of texts, what each counts as, with its length ahead -/
def cat : List (List Nat) → List Nat
  | [] => []
  | s :: l => Wr.txB (sh s) ++ cat l
theorem cat_append : ∀ a b : List (List Nat), cat (a ++ b) = cat a ++ cat b
  | [], _ => rfl
  | s :: a, b => by show _ ++ cat (a ++ b) = _; rw [cat_append a b]; show _ = (_ ++ cat a) ++ cat b; rw [List.append_assoc]
theorem cat_take {ls : List (List Nat)} {k : Nat} (h : k < ls.length) : cat (ls.take (k + 1)) = cat (ls.take k) ++ Wr.txB (sh (ls.getD k [])) := by
  rw [List.take_succ, cat_append, List.getElem?_eq_getElem h, List.getD_eq_getElem?_getD, List.getElem?_eq_getElem h]
  show _ ++ (_ ++ []) = _
  rw [List.append_nil]; rfl
theorem cat_lt {ls : List (List Nat)} (h : ∀ s ∈ ls, ∀ j, gt s j < 256) : ∀ j, gt (cat ls) j < 256 := by
  induction ls with
  | nil => intro j; simp [cat, Wr.gt]
  | cons a l ih => exact Wr.gt_append_lt (Wr.txB_lt (sh_lt (h a (List.mem_cons_self ..)))) (ih fun s hs => h s (List.mem_cons_of_mem _ hs))
theorem cat_len (ls : List (List Nat)) : (cat ls).length ≤ 16004 * ls.length := by
  induction ls with
  | nil => simp [cat]
  | cons a l ih =>
    have h1 := (Wr.szB_pos (sh a).length).2
    have h2 := sh_len a
    have h3 := Wr.txB_len (sh a)
    simp only [cat, List.length_append, List.length_cons]
    omega
theorem rn_of_txt {lo g n c : Nat} {w : World} {A : Option Addr} {bs : List Nat} (h : Txt (New lo w) w A n c bs) (hg : g < lo) : Sha.Rn w g A bs :=
  ⟨h.1.1, fun hn => by
    obtain ⟨ad, e, hlt, hr⟩ := h.1.2 hn
    have h1 := (h.2.2.2.2.2 ad e).1
    exact ⟨ad, e, by omega, hlt, hr⟩⟩

set_option maxHeartbeats 2000000 in
set_option maxRecDepth 100000 in
theorem sumOf_any (g N cap : Nat) (ls : List (List Nat)) (w : World) (hT : Tabs w) (hP : TxtL Any w (some ⟨g, 0, none⟩) N cap ls) (hN : N ≤ 1000) (hm : ∀ s ∈ ls, s.length ≤ 1000000) :
    Calls Tryd.prog 29 #[.slice (some ⟨g, 0, none⟩) N cap] w (Wr.Told (Sha.sum (cat ls)) w) := by
  have hG := hT.big
  have HT := Lib.hid hT; have HP := Lib.hid hP; have HM := Lib.hid hm; have HL := Lib.hid hP.1
  have HLT := Lib.hid hP.all
  generalize hX : Sha.sum (cat ls) = X
  have HX := Lib.hid (fun _ : Unit => hX)
  clear hT hP hm hX
  go_enter Tryd.func29, Tryd.ntmps29
  go_wp2_with fail
  refine (Sha.new_any _ HT.out.sha).mono ?_
  rintro e' w1 ⟨rfl, hS, hB, hz⟩
  have HS1 := Lib.hid hS; have HB1 := Lib.hid hB
  have hx0 := hS.lt
  clear hS hB hz
  obtain ⟨x, hx⟩ : ∃ x, w.heap.size = x := ⟨_, rfl⟩
  rw [hx] at HS1 hx0 ⊢
  go_wp2
  go_loopw [11] (fun i W => ∃ j : Nat, j ≤ N ∧ i = .int .i64 j ∧ Hid (Sha.HsAt W x (Sha.takeAll Sha.start (cat (ls.take j)))) ∧ Hid (Below w.heap.size w W)) (fun i _ => N - (intOf i).toNat)
  case atStart => exact ⟨0, by omega, rfl, Lib.hid (by rw [List.take_zero]; exact HS1.out), HB1⟩
  case round =>
    obtain ⟨j, hj, rfl, HS, HB⟩ := hrel
    have HPw := Lib.hid (HP.out.below HB.out)
    have hxs := HS.out.lt
    have hcl := cat_len (ls.take j)
    have hn4 : (Sha.takeAll Sha.start (cat (ls.take j))).n ≤ 20000000 := by
      rw [Sha.takeAll_n]; show 0 + _ ≤ _; rw [List.length_take] at hcl; have := Nat.min_le_left j ls.length; have : 16004 * min j ls.length ≤ 16004 * 1000 := Nat.mul_le_mul_left _ (by omega); omega
    have HGd := Lib.hid (Sha.good_takeAll (cat (ls.take j)) Sha.good_start (cat_lt fun s hs => HLT.out s (List.mem_of_mem_take hs)))
    by_cases hjN : j < N
    · have hjl : j < ls.length := by rw [HL.out]; exact hjN
      obtain ⟨A, n, c, hcell, hA⟩ := HPw.out.2.2.2.2.2 _ rfl j hjN
      have hm1 : n ≤ 1000000 := by
        rw [← hA.len, List.getD_eq_getElem?_getD, List.getElem?_eq_getElem hjl]; exact HM.out _ (List.getElem_mem _)
      have HJ := Lib.hid (fun _ : Unit => cat_take hjl)
      obtain ⟨b, hb⟩ : ∃ b, ls.getD j [] = b := ⟨_, rfl⟩
      rw [hb] at hA HJ
      have HA := Lib.hid hA
      clear hA hb
      rw [show (⟨g, 0, none⟩ : Addr).add j = ⟨g, j, none⟩ by unfold Addr.add; split <;> simp_all] at hcell
      have yj : (j : Int) < (N : Int) := by omega
      obtain ⟨s1, hs1e⟩ : ∃ s1, Sha.takeAll Sha.start (cat (ls.take j)) = s1 := ⟨_, rfl⟩
      have HS1e := Lib.hid (fun _ : Unit => hs1e)
      rw [hs1e] at HS hn4 HGd
      clear hs1e
      go_wp2_with fail
      refine (short_any A b n c _ (HT.out.below HB.out hG) HA.out hm1).mono ?_
      rintro e' w2 ⟨A1, m1, d1, rfl, hX, hb⟩
      have X1 := Lib.hid hX; have HB2 := Lib.hid (HB.out.trans (hb.mono HB.out.size)); have HS2 := Lib.hid (HS.out.below hb hxs)
      have k1 : m1 ≤ 16000 := by rw [← hX.2.1]; exact sh_len _
      have hs2 := hb.size
      clear hX hb HA
      go_wp2_with fail
      refine (Wr.text_any A1 (sh b) m1 d1 _ (HT.out.below HB2.out hG).wr X1.out (Wr.txB (sh b), 0) (Lib.hid (Wr.putT_yes (by have := sh_len b; omega)))).mono ?_
      rintro e' w3 ⟨A2, m2, d2, rfl, hX, hb⟩
      obtain ⟨y, hy⟩ : ∃ y, Wr.txB (sh b) = y := ⟨_, rfl⟩
      have hyl : y.length ≤ 16004 := by rw [← hy, Wr.txB_len]; have := (Wr.szB_pos (sh b).length).2; have := sh_len b; omega
      dsimp only at hX
      rw [hy] at hX HJ
      have X2 := Lib.hid hX; have HB3 := Lib.hid (HB2.out.trans (hb.mono HB2.out.size)); have HS3 := Lib.hid (HS2.out.below hb (by omega))
      have hm2 := hX.len
      clear hX hb X1 HS HS2 hy
      dsimp only
      go_wp2_with fail
      refine (Sha.write_any x s1 A2 y m2 d2 _ HS3.out HGd.out (HT.out.below HB3.out hG).sha (by omega) (rn_of_txt X2.out (by omega)) hm2 X2.out.2.2.1 X2.out.2.2.2.1 (by omega)).mono ?_
      rintro e' w4 ⟨rfl, hS5, hG5⟩
      have HS5 := Lib.hid hS5; have HB5 := Lib.hid (Sha.below_of_only HB3.out hG5 (by omega))
      clear hS5 hG5
      go_wp2
      go_roundw
      case rel => exact ⟨j + 1, by omega, by go_num, Lib.hid (by rw [HJ.out (), Sha.takeAll_append, HS1e.out ()]; exact HS5.out), HB5⟩
      case measure => simp [intOf]; omega
    · obtain rfl : j = N := by omega
      have HE : Hid (Unit → Sha.sumOf (Sha.takeAll Sha.start (cat (ls.take j))) = X) := Lib.hid fun _ => by rw [List.take_of_length_le (by rw [HL.out]; omega), ← HX.out ()]; rfl
      generalize Sha.takeAll Sha.start (cat (ls.take j)) = s1 at *
      go_wp2_with fail
      refine (Sha.hsum_any x s1 _ HS.out HGd.out (HT.out.below HB.out hG).sha (by omega)).mono ?_
      rw [HE.out ()]
      rintro e' w4 ⟨h, cp, rfl, hown, hB5⟩
      have HR := Lib.hid (told_of_own hown (by rw [← HX.out ()]; exact Sha.sum_lt _) hB5)
      have hwb := HB.out.size
      clear hown hB5
      go_wp2
      go_ret
      obtain ⟨A7, n7, c7, e7, hX7, hB7⟩ := HR.out
      exact ⟨A7, n7, c7, e7, txt_low hX7 hwb, HB.out.trans (hB7.mono hwb)⟩
theorem two_parts {w : World} {A B : Option Addr} {a b : List Nat} {na ca nb cb : Nat} (hA : Txt Any w A na ca a) (hB : Txt Any w B nb cb b) (t : TypeId) :
    TxtL Any (w.alloc (.cells #[.slice A na ca, .slice B nb cb] t)) (some ⟨w.heap.size, 0, none⟩) 2 2 [a, b] := by
  have hb := (Below.refl w.heap.size w).alloc (Nat.le_refl _) (.cells #[.slice A na ca, .slice B nb cb] t)
  refine ⟨rfl, by omega, by omega, fun e => (by cases e), fun ad e => ?_, fun ad e j hj => ?_⟩
  · injection e with e; subst e; exact ⟨True.intro, fun _ => by simp⟩
  · injection e with e; subst e
    have hd : (⟨w.heap.size, 0, none⟩ : Addr).add j = ⟨w.heap.size, j, none⟩ := by unfold Addr.add; split <;> simp_all
    rw [hd, cell_of_row _ _ j _ t (0, 0) (heap_alloc_last w _)]
    match j, hj with
    | 0, _ => exact ⟨A, na, ca, rfl, hA.below hb⟩
    | 1, _ => exact ⟨B, nb, cb, rfl, hB.below hb⟩

set_option maxHeartbeats 1000000 in
theorem confirmed_any (A B : Option Addr) (a b : List Nat) (n1 c1 n2 c2 : Nat) (w : World) (hT : Tabs w) (hA : Txt Any w A n1 c1 a) (hB : Txt Any w B n2 c2 b) (hm1 : n1 ≤ 1000000) (hm2 : n2 ≤ 1000000) :
    Calls Tryd.prog 15 #[.slice A n1 c1, .slice B n2 c2] w (Wr.Told (sm a b) w) := by
  have hb0 := (Below.refl w.heap.size w).alloc (Nat.le_refl _) (.cells #[.slice A n1 c1, .slice B n2 c2] 22)
  have HB0 := Lib.hid hb0
  have HC := Lib.hid (sumOf_any w.heap.size 2 2 [a, b] _ (hT.at hb0) (two_parts hA hB 22) (by omega) (by intro s hs; simp at hs; rcases hs with rfl | rfl; (rw [hA.len]; exact hm1); (rw [hB.len]; exact hm2)))
  obtain ⟨r, hr⟩ : ∃ r, sm a b = r := ⟨_, rfl⟩
  rw [show Sha.sum (cat [a, b]) = r by rw [← hr]; unfold sm; simp only [cat, List.append_nil]] at HC
  rw [hr]
  clear hr hA hB hT hb0
  go_enter Tryd.func15, Tryd.ntmps15
  go_wp2_with fail
  refine HC.out.mono ?_
  rintro e' w1 ⟨A1, m1, d1, rfl, hX, hb⟩
  have X1 := Lib.hid (txt_low hX HB0.out.size); have HB1 := Lib.hid (HB0.out.trans (hb.mono HB0.out.size))
  clear hX hb
  go_wp2
  go_ret
  exact ⟨_, _, _, rfl, X1.out, HB1.out⟩

set_option maxHeartbeats 1000000 in
theorem interim_any (A B : Option Addr) (a b : List Nat) (n1 c1 n2 c2 : Nat) (w : World) (hT : Tabs w) (hA : Txt Any w A n1 c1 a) (hB : Txt Any w B n2 c2 b) (hm1 : n1 ≤ 1000000) (hm2 : n2 ≤ 1000000) :
    Calls Tryd.prog 17 #[.slice A n1 c1, .slice B n2 c2] w (Wr.Told (sm a b) w) := by
  have hb0 := (Below.refl w.heap.size w).alloc (Nat.le_refl _) (.cells #[.slice A n1 c1, .slice B n2 c2] 22)
  have HB0 := Lib.hid hb0
  have HC := Lib.hid (sumOf_any w.heap.size 2 2 [a, b] _ (hT.at hb0) (two_parts hA hB 22) (by omega) (by intro s hs; simp at hs; rcases hs with rfl | rfl; (rw [hA.len]; exact hm1); (rw [hB.len]; exact hm2)))
  obtain ⟨r, hr⟩ : ∃ r, sm a b = r := ⟨_, rfl⟩
  rw [show Sha.sum (cat [a, b]) = r by rw [← hr]; unfold sm; simp only [cat, List.append_nil]] at HC
  rw [hr]
  clear hr hA hB hT hb0
  go_enter Tryd.func17, Tryd.ntmps17
  go_wp2_with fail
  refine HC.out.mono ?_
  rintro e' w1 ⟨A1, m1, d1, rfl, hX, hb⟩
  have X1 := Lib.hid (txt_low hX HB0.out.size); have HB1 := Lib.hid (HB0.out.trans (hb.mono HB0.out.size))
  clear hX hb
  go_wp2
  go_ret
  exact ⟨_, _, _, rfl, X1.out, HB1.out⟩
end Go.Proofs.YtikafijdfgkgkaaDoor.Sc
