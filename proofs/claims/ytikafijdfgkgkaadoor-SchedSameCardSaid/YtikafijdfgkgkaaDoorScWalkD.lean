/- Walks: Export of both, the document's Same, head, great. Written by tools/mk_scwalkd.py. -/
import Derived.Test.YtikafijdfgkgkaaDoorScWalkC
namespace Go.Proofs.YtikafijdfgkgkaaDoor.Sc
set_option linter.all false
open Go.RowKit
open Wr (Txt TxtL Any New bcells gt)


set_option maxHeartbeats 2000000 in
set_option maxRecDepth 100000 in
theorem export_any (q : Q7) (C : Option Addr) (key : List Nat) (l : ByteArray) (x : List Nat) (nc cc : Nat) (n : Int) (w : World) (hT : Tabs w) (hK : Txt Any w q.A3 q.n3 q.c3 key) (hC : Txt Any w C nc cc x) (hm1 : q.n3 ≤ 1000000) (hm2 : nc ≤ 1000000) :
    Calls Tryd.prog 19 #[.agg #[.slice q.A0 q.n0 q.c0, .slice q.A1 q.n1 q.c1, .slice q.A2 q.n2 q.c2, .slice q.A3 q.n3 q.c3, .slice q.A4 q.n4 q.c4, .slice q.A5 q.n5 q.c5, .slice q.A6 q.n6 q.c6], .string l, .slice C nc cc, .int .i64 n] w (Wr.Told (xp key l x n) w) := by
  have b0 := (Below.refl w.heap.size w).alloc (Nat.le_refl _) (.cells #[.slice q.A0 q.n0 q.c0, .slice q.A1 q.n1 q.c1, .slice q.A2 q.n2 q.c2, .slice q.A3 q.n3 q.c3, .slice q.A4 q.n4 q.c4, .slice q.A5 q.n5 q.c5, .slice q.A6 q.n6 q.c6] 28)
  have r0 := Row7.new w (.slice q.A0 q.n0 q.c0) (.slice q.A1 q.n1 q.c1) (.slice q.A2 q.n2 q.c2) (.slice q.A3 q.n3 q.c3) (.slice q.A4 q.n4 q.c4) (.slice q.A5 q.n5 q.c5) (.slice q.A6 q.n6 q.c6)
  have T_w := Lib.hid (hT.at b0)
  have HK_w := Lib.hid (hK.below b0); have HC_w := Lib.hid (hC.below b0)
  obtain ⟨w0, hw0⟩ : ∃ W, w.alloc (.cells #[.slice q.A0 q.n0 q.c0, .slice q.A1 q.n1 q.c1, .slice q.A2 q.n2 q.c2, .slice q.A3 q.n3 q.c3, .slice q.A4 q.n4 q.c4, .slice q.A5 q.n5 q.c5, .slice q.A6 q.n6 q.c6] 28) = W := ⟨_, rfl⟩
  rw [hw0] at b0 r0 HK_w HC_w T_w
  have B_w := Lib.hid b0
  obtain ⟨-, -, -, s3, -, -, -⟩ := r0.cs
  obtain ⟨k, hk⟩ : ∃ k, lb (sh key) l [] = k := ⟨_, rfl⟩
  obtain ⟨r, hr⟩ : ∃ r, xp key l x n = r := ⟨_, rfl⟩
  have HE1 : Hid (Unit → Sha.lab (sh key) l [] 32 = k) := Lib.hid fun _ => hk
  have HR1 : Hid (k.length = 0 → [] = r) := Lib.hid fun h => by rw [← hr]; unfold xp; rw [hk, if_pos h]
  have HR2 : Hid (¬ k.length = 0 → Sha.lab k ⟨#[101, 120, 112, 111, 114, 116, 101, 100]⟩ (Sha.sum (sh x)) n = r) := Lib.hid fun h => by rw [← hr]; unfold xp; rw [hk, if_neg h]
  rw [hr]
  clear hk hr hK hC b0 r0 hT
  go_enter Tryd.func19, Tryd.ntmps19
  go_wp2_with fail
  try rw [hw0]
  skip
  refine (short_any q.A3 key q.n3 q.c3 w0 T_w.out HK_w.out hm1).mono ?_
  rintro e' w1 ⟨A1, m1, d1, rfl, hX, hb⟩
  have X1_w1 := Lib.hid (hX)
  have T_w1 := Lib.hid (T_w.out.at hb)
  have HK_w1 := Lib.hid (HK_w.out.below hb)
  have HC_w1 := Lib.hid (HC_w.out.below hb)
  have B_w1 := Lib.hid (B_w.out.trans (hb.mono B_w.out.size))
  clear B_w T_w HK_w HC_w
  clear hX hb hw0 s3
  clear HK_w1
  have k1 : m1 ≤ 16000 := by rw [← X1_w1.out.2.1]; exact sh_len _
  go_wp2_with fail
  refine (label_any l A1 none (sh key) [] m1 d1 0 0 32 _ T_w1.out X1_w1.out (by omega) (Txt.nil _ _)).mono ?_
  rintro e' w2 ⟨A2, m2, d2, rfl, hX, hb⟩
  have X2_w2 := Lib.hid (hX.any)
  have T_w2 := Lib.hid (T_w1.out.at hb)
  have HC_w2 := Lib.hid (HC_w1.out.below hb)
  have X1_w2 := Lib.hid (X1_w1.out.below hb)
  have B_w2 := Lib.hid (B_w1.out.trans (hb.mono B_w1.out.size))
  clear B_w1 T_w1 HC_w1 X1_w1
  clear hX hb
  clear X1_w2
  rw [HE1.out ()] at X2_w2
  have hl := X2_w2.out.2.1
  by_cases hm : m2 = 0
  case pos =>
    subst hm
    have e := HR1.out hl
    subst e
    clear hl
    go_wp2
    go_ret
    exact told_none B_w2.out
  have y1 : ¬ (m2 : Int) = 0 := by omega
  have HR3 := Lib.hid (HR2.out (by omega)); have k2 : m2 ≤ 32 := by rw [← hl, ← HE1.out ()]; unfold Sha.lab; split; (rw [Sha.expand_len _ _ _ (by decide)]; decide); (simp)
  clear hl HE1 HR1 HR2
  go_wp2_with fail
  refine (short_any C x nc cc _ T_w2.out HC_w2.out hm2).mono ?_
  rintro e' w3 ⟨A3, m3, d3, rfl, hX, hb⟩
  have X3_w3 := Lib.hid (hX)
  have T_w3 := Lib.hid (T_w2.out.at hb)
  have HC_w3 := Lib.hid (HC_w2.out.below hb)
  have X2_w3 := Lib.hid (X2_w2.out.below hb)
  have B_w3 := Lib.hid (B_w2.out.trans (hb.mono B_w2.out.size))
  clear B_w2 T_w2 HC_w2 X2_w2
  clear hX hb
  clear HC_w3
  have k3 : m3 ≤ 16000 := by rw [← X3_w3.out.2.1]; exact sh_len _
  go_wp2_with fail
  refine (sum_any A3 (sh x) m3 d3 _ T_w3.out X3_w3.out (by omega)).mono ?_
  rintro e' w4 ⟨A4, m4, d4, rfl, hX, hb⟩
  have X4_w4 := Lib.hid (hX.any)
  have T_w4 := Lib.hid (T_w3.out.at hb)
  have X2_w4 := Lib.hid (X2_w3.out.below hb)
  have X3_w4 := Lib.hid (X3_w3.out.below hb)
  have B_w4 := Lib.hid (B_w3.out.trans (hb.mono B_w3.out.size))
  clear B_w3 T_w3 X2_w3 X3_w3
  clear hX hb
  clear X3_w4
  go_wp2_with fail
  refine (label_any ⟨#[101, 120, 112, 111, 114, 116, 101, 100]⟩ A2 A4 k (Sha.sum (sh x)) m2 d2 m4 d4 n _ T_w4.out X2_w4.out (by omega) X4_w4.out).mono ?_
  rintro e' w5 ⟨A5, m5, d5, rfl, hX, hb⟩
  have X5_w5 := Lib.hid (txt_low hX B_w4.out.size)
  have T_w5 := Lib.hid (T_w4.out.at hb)
  have X2_w5 := Lib.hid (X2_w4.out.below hb)
  have X4_w5 := Lib.hid (X4_w4.out.below hb)
  have B_w5 := Lib.hid (B_w4.out.trans (hb.mono B_w4.out.size))
  clear B_w4 T_w4 X2_w4 X4_w4
  rw [HR3.out] at X5_w5
  clear hX hb
  go_wp2
  go_ret
  exact ⟨_, _, _, rfl, X5_w5.out, B_w5.out⟩

set_option maxHeartbeats 2000000 in
set_option maxRecDepth 100000 in
theorem rexport_any (q : Q7) (C : Option Addr) (key : List Nat) (l : ByteArray) (x : List Nat) (nc cc : Nat) (n : Int) (w : World) (hK : Txt Any w q.A3 q.n3 q.c3 key) (hC : Txt Any w C nc cc x) (hm1 : q.n3 ≤ 100000) (hm2 : nc ≤ 100000) :
    Calls Tryd.prog 20 #[.agg #[.slice q.A0 q.n0 q.c0, .slice q.A1 q.n1 q.c1, .slice q.A2 q.n2 q.c2, .slice q.A3 q.n3 q.c3, .slice q.A4 q.n4 q.c4, .slice q.A5 q.n5 q.c5, .slice q.A6 q.n6 q.c6], .string l, .slice C nc cc, .int .i64 n] w (Wr.Told (xp key l x n) w) := by
  have b0 := (Below.refl w.heap.size w).alloc (Nat.le_refl _) (.cells #[.slice q.A0 q.n0 q.c0, .slice q.A1 q.n1 q.c1, .slice q.A2 q.n2 q.c2, .slice q.A3 q.n3 q.c3, .slice q.A4 q.n4 q.c4, .slice q.A5 q.n5 q.c5, .slice q.A6 q.n6 q.c6] 28)
  have r0 := Row7.new w (.slice q.A0 q.n0 q.c0) (.slice q.A1 q.n1 q.c1) (.slice q.A2 q.n2 q.c2) (.slice q.A3 q.n3 q.c3) (.slice q.A4 q.n4 q.c4) (.slice q.A5 q.n5 q.c5) (.slice q.A6 q.n6 q.c6)
  have HK_w := Lib.hid (hK.below b0); have HC_w := Lib.hid (hC.below b0)
  obtain ⟨w0, hw0⟩ : ∃ W, w.alloc (.cells #[.slice q.A0 q.n0 q.c0, .slice q.A1 q.n1 q.c1, .slice q.A2 q.n2 q.c2, .slice q.A3 q.n3 q.c3, .slice q.A4 q.n4 q.c4, .slice q.A5 q.n5 q.c5, .slice q.A6 q.n6 q.c6] 28) = W := ⟨_, rfl⟩
  rw [hw0] at b0 r0 HK_w HC_w
  have B_w := Lib.hid b0
  obtain ⟨-, -, -, s3, -, -, -⟩ := r0.cs
  obtain ⟨k, hk⟩ : ∃ k, lb (sh key) l [] = k := ⟨_, rfl⟩
  obtain ⟨r, hr⟩ : ∃ r, xp key l x n = r := ⟨_, rfl⟩
  have HE1 : Hid (Unit → Sha.lab (sh key) l [] 32 = k) := Lib.hid fun _ => hk
  have HR1 : Hid (k.length = 0 → [] = r) := Lib.hid fun h => by rw [← hr]; unfold xp; rw [hk, if_pos h]
  have HR2 : Hid (¬ k.length = 0 → Sha.lab k ⟨#[101, 120, 112, 111, 114, 116, 101, 100]⟩ (Sha.sum (sh x)) n = r) := Lib.hid fun h => by rw [← hr]; unfold xp; rw [hk, if_neg h]
  rw [hr]
  clear hk hr hK hC b0 r0
  go_enter Tryd.func20, Tryd.ntmps20
  go_wp2_with fail
  try rw [hw0]
  skip
  refine (rshort_any q.A3 key q.n3 q.c3 w0 HK_w.out hm1).mono ?_
  rintro e' w1 ⟨A1, m1, d1, rfl, hX, hb⟩
  have X1_w1 := Lib.hid (hX)
  have HK_w1 := Lib.hid (HK_w.out.below hb)
  have HC_w1 := Lib.hid (HC_w.out.below hb)
  have B_w1 := Lib.hid (B_w.out.trans (hb.mono B_w.out.size))
  clear B_w HK_w HC_w
  clear hX hb hw0 s3
  clear HK_w1
  have k1 : m1 ≤ 16000 := by rw [← X1_w1.out.2.1]; exact sh_len _
  go_wp2_with fail
  refine (rlabel_any l A1 none (sh key) [] m1 d1 0 0 32 _ X1_w1.out (by omega) (Txt.nil _ _)).mono ?_
  rintro e' w2 ⟨A2, m2, d2, rfl, hX, hb⟩
  have X2_w2 := Lib.hid (hX.any)
  have HC_w2 := Lib.hid (HC_w1.out.below hb)
  have X1_w2 := Lib.hid (X1_w1.out.below hb)
  have B_w2 := Lib.hid (B_w1.out.trans (hb.mono B_w1.out.size))
  clear B_w1 HC_w1 X1_w1
  clear hX hb
  clear X1_w2
  rw [HE1.out ()] at X2_w2
  have hl := X2_w2.out.2.1
  by_cases hm : m2 = 0
  case pos =>
    subst hm
    have e := HR1.out hl
    subst e
    clear hl
    go_wp2
    go_ret
    exact told_none B_w2.out
  have y1 : ¬ (m2 : Int) = 0 := by omega
  have HR3 := Lib.hid (HR2.out (by omega)); have k2 : m2 ≤ 32 := by rw [← hl, ← HE1.out ()]; unfold Sha.lab; split; (rw [Sha.expand_len _ _ _ (by decide)]; decide); (simp)
  clear hl HE1 HR1 HR2
  go_wp2_with fail
  refine (rshort_any C x nc cc _ HC_w2.out hm2).mono ?_
  rintro e' w3 ⟨A3, m3, d3, rfl, hX, hb⟩
  have X3_w3 := Lib.hid (hX)
  have HC_w3 := Lib.hid (HC_w2.out.below hb)
  have X2_w3 := Lib.hid (X2_w2.out.below hb)
  have B_w3 := Lib.hid (B_w2.out.trans (hb.mono B_w2.out.size))
  clear B_w2 HC_w2 X2_w2
  clear hX hb
  clear HC_w3
  have k3 : m3 ≤ 16000 := by rw [← X3_w3.out.2.1]; exact sh_len _
  go_wp2_with fail
  refine (rsum_any A3 (sh x) m3 d3 _ X3_w3.out (by omega)).mono ?_
  rintro e' w4 ⟨A4, m4, d4, rfl, hX, hb⟩
  have X4_w4 := Lib.hid (hX.any)
  have X2_w4 := Lib.hid (X2_w3.out.below hb)
  have X3_w4 := Lib.hid (X3_w3.out.below hb)
  have B_w4 := Lib.hid (B_w3.out.trans (hb.mono B_w3.out.size))
  clear B_w3 X2_w3 X3_w3
  clear hX hb
  clear X3_w4
  go_wp2_with fail
  refine (rlabel_any ⟨#[101, 120, 112, 111, 114, 116, 101, 100]⟩ A2 A4 k (Sha.sum (sh x)) m2 d2 m4 d4 n _ X2_w4.out (by omega) X4_w4.out).mono ?_
  rintro e' w5 ⟨A5, m5, d5, rfl, hX, hb⟩
  have X5_w5 := Lib.hid (txt_low hX B_w4.out.size)
  have X2_w5 := Lib.hid (X2_w4.out.below hb)
  have X4_w5 := Lib.hid (X4_w4.out.below hb)
  have B_w5 := Lib.hid (B_w4.out.trans (hb.mono B_w4.out.size))
  clear B_w4 X2_w4 X4_w4
  rw [HR3.out] at X5_w5
  clear hX hb
  go_wp2
  go_ret
  exact ⟨_, _, _, rfl, X5_w5.out, B_w5.out⟩

theorem two_epochs (w : World) (q p : Q7) : ∃ W, (w.alloc (.cells #[.slice q.A0 q.n0 q.c0, .slice q.A1 q.n1 q.c1, .slice q.A2 q.n2 q.c2, .slice q.A3 q.n3 q.c3, .slice q.A4 q.n4 q.c4, .slice q.A5 q.n5 q.c5, .slice q.A6 q.n6 q.c6] 28)).alloc (.cells #[.slice p.A0 p.n0 p.c0, .slice p.A1 p.n1 p.c1, .slice p.A2 p.n2 p.c2, .slice p.A3 p.n3 p.c3, .slice p.A4 p.n4 p.c4, .slice p.A5 p.n5 p.c5, .slice p.A6 p.n6 p.c6] 28) = W ∧ Row7 W w.heap.size (.slice q.A0 q.n0 q.c0) (.slice q.A1 q.n1 q.c1) (.slice q.A2 q.n2 q.c2) (.slice q.A3 q.n3 q.c3) (.slice q.A4 q.n4 q.c4) (.slice q.A5 q.n5 q.c5) (.slice q.A6 q.n6 q.c6) ∧ Row7 W (w.heap.size + 1) (.slice p.A0 p.n0 p.c0) (.slice p.A1 p.n1 p.c1) (.slice p.A2 p.n2 p.c2) (.slice p.A3 p.n3 p.c3) (.slice p.A4 p.n4 p.c4) (.slice p.A5 p.n5 p.c5) (.slice p.A6 p.n6 p.c6) ∧ Below w.heap.size w W := by
  have b1 := (Below.refl w.heap.size w).alloc (Nat.le_refl _) (.cells #[.slice q.A0 q.n0 q.c0, .slice q.A1 q.n1 q.c1, .slice q.A2 q.n2 q.c2, .slice q.A3 q.n3 q.c3, .slice q.A4 q.n4 q.c4, .slice q.A5 q.n5 q.c5, .slice q.A6 q.n6 q.c6] 28)
  have r1 := Row7.new w (.slice q.A0 q.n0 q.c0) (.slice q.A1 q.n1 q.c1) (.slice q.A2 q.n2 q.c2) (.slice q.A3 q.n3 q.c3) (.slice q.A4 q.n4 q.c4) (.slice q.A5 q.n5 q.c5) (.slice q.A6 q.n6 q.c6)
  have r2 := Row7.new (w.alloc (.cells #[.slice q.A0 q.n0 q.c0, .slice q.A1 q.n1 q.c1, .slice q.A2 q.n2 q.c2, .slice q.A3 q.n3 q.c3, .slice q.A4 q.n4 q.c4, .slice q.A5 q.n5 q.c5, .slice q.A6 q.n6 q.c6] 28)) (.slice p.A0 p.n0 p.c0) (.slice p.A1 p.n1 p.c1) (.slice p.A2 p.n2 p.c2) (.slice p.A3 p.n3 p.c3) (.slice p.A4 p.n4 p.c4) (.slice p.A5 p.n5 p.c5) (.slice p.A6 p.n6 p.c6)
  rw [World.size_alloc] at r2
  have b2 := (Below.refl _ _).alloc (w := w.alloc (.cells #[.slice q.A0 q.n0 q.c0, .slice q.A1 q.n1 q.c1, .slice q.A2 q.n2 q.c2, .slice q.A3 q.n3 q.c3, .slice q.A4 q.n4 q.c4, .slice q.A5 q.n5 q.c5, .slice q.A6 q.n6 q.c6] 28)) (Nat.le_refl _) (.cells #[.slice p.A0 p.n0 p.c0, .slice p.A1 p.n1 p.c1, .slice p.A2 p.n2 p.c2, .slice p.A3 p.n3 p.c3, .slice p.A4 p.n4 p.c4, .slice p.A5 p.n5 p.c5, .slice p.A6 p.n6 p.c6] 28)
  exact ⟨_, rfl, r1.below b2 r1.lt, r2, b1.trans (b2.mono b1.size)⟩

set_option maxHeartbeats 4000000 in
set_option maxRecDepth 100000 in
theorem same_true (q p : Q7) (e : Ep) (w : World) (hq : EpIs Any w q e) (hp : EpIs Any w p e) :
    Calls Tryd.prog 12 #[.agg #[.slice q.A0 q.n0 q.c0, .slice q.A1 q.n1 q.c1, .slice q.A2 q.n2 q.c2, .slice q.A3 q.n3 q.c3, .slice q.A4 q.n4 q.c4, .slice q.A5 q.n5 q.c5, .slice q.A6 q.n6 q.c6], .agg #[.slice p.A0 p.n0 p.c0, .slice p.A1 p.n1 p.c1, .slice p.A2 p.n2 p.c2, .slice p.A3 p.n3 p.c3, .slice p.A4 p.n4 p.c4, .slice p.A5 p.n5 p.c5, .slice p.A6 p.n6 p.c6]] w fun x w' => x = .returned (.bool true) ∧ Below w.heap.size w w' := by
  obtain ⟨W2, hW2, r1, r2, b2⟩ := two_epochs w q p
  have q1 := hq.below b2; have p1 := hp.below b2
  have HB := Lib.hid b2
  have cq0 := q1.t0.conv; have cp0 := p1.t0.conv
  obtain ⟨S0, hS0⟩ : ∃ S, Wr.txt e.wel = S := ⟨_, rfl⟩
  rw [hS0] at cq0 cp0
  clear hS0
  have cq1 := q1.t1.conv; have cp1 := p1.t1.conv
  obtain ⟨S1, hS1⟩ : ∃ S, Wr.txt e.sec = S := ⟨_, rfl⟩
  rw [hS1] at cq1 cp1
  clear hS1
  have cq2 := q1.t2.conv; have cp2 := p1.t2.conv
  obtain ⟨S2, hS2⟩ : ∃ S, Wr.txt e.enc = S := ⟨_, rfl⟩
  rw [hS2] at cq2 cp2
  clear hS2
  have cq3 := q1.t3.conv; have cp3 := p1.t3.conv
  obtain ⟨S3, hS3⟩ : ∃ S, Wr.txt e.exp = S := ⟨_, rfl⟩
  rw [hS3] at cq3 cp3
  clear hS3
  have cq4 := q1.t4.conv; have cp4 := p1.t4.conv
  obtain ⟨S4, hS4⟩ : ∃ S, Wr.txt e.con = S := ⟨_, rfl⟩
  rw [hS4] at cq4 cp4
  clear hS4
  have cq5 := q1.t5.conv; have cp5 := p1.t5.conv
  obtain ⟨S5, hS5⟩ : ∃ S, Wr.txt e.mem = S := ⟨_, rfl⟩
  rw [hS5] at cq5 cp5
  clear hS5
  have cq6 := q1.t6.conv; have cp6 := p1.t6.conv
  obtain ⟨S6, hS6⟩ : ∃ S, Wr.txt e.ini = S := ⟨_, rfl⟩
  rw [hS6] at cq6 cp6
  clear hS6
  obtain ⟨s0, s1, s2, s3, s4, s5, s6⟩ := r1.cs
  obtain ⟨t0, t1, t2, t3, t4, t5, t6⟩ := r2.cs
  clear hq hp q1 p1 r1 r2 b2
  go_enter Tryd.func12, Tryd.ntmps12
  go_wp2_with (rw [hW2])
  go_ret
  exact ⟨rfl, HB.out⟩

theorem great_any (A : Option Addr) (n c : Nat) (w : World) : Calls Tryd.prog 9 #[.slice A n c] w fun e w' => e = .returned (.bool (decide (20000 < n))) ∧ w = w' := by
  by_cases h : 20000 < n
  · have y1 : (20000 : Int) < (n : Int) := by omega
    rw [decide_eq_true h]
    go_enter Tryd.func9, Tryd.ntmps9
    go_wp2
    go_ret
    exact ⟨rfl, rfl⟩
  · have y1 : ¬ (20000 : Int) < (n : Int) := by omega
    rw [decide_eq_false h]
    go_enter Tryd.func9, Tryd.ntmps9
    go_wp2
    go_ret
    exact ⟨rfl, rfl⟩
theorem great_yes (A : Option Addr) (n c : Nat) (w : World) (h : 20000 < n) : Calls Tryd.prog 9 #[.slice A n c] w fun e w' => e = .returned (.bool true) ∧ w = w' :=
  (great_any A n c w).mono fun _ _ x => by rw [decide_eq_true h] at x; exact x
theorem great_no (A : Option Addr) (n c : Nat) (w : World) (h : n ≤ 20000) : Calls Tryd.prog 9 #[.slice A n c] w fun e w' => e = .returned (.bool false) ∧ w = w' :=
  (great_any A n c w).mono fun _ _ x => by rw [decide_eq_false (by omega)] at x; exact x

set_option maxHeartbeats 4000000 in
set_option maxRecDepth 100000 in
theorem head_any (w : World) (hT : Tabs w) : Calls Tryd.prog 8 #[] w fun e w' => e = .returned (.bool true) ∧ Below w.heap.size w w' := by
  have T_w := Lib.hid (hT)
  have B_w := Lib.hid (Below.refl w.heap.size w)
  clear hT
  go_enter Tryd.func8, Tryd.ntmps8
  go_wp2_with fail
  refine (joiner_any none none none [] [] [] 0 0 0 0 0 0 w T_w.out (Txt.nil _ _) (Txt.nil _ _) (Txt.nil _ _) (by omega) (by omega) (by omega)).mono ?_
  rintro e' w1 ⟨A1, m1, d1, rfl, hX, hb⟩
  have X1_w1 := Lib.hid (hX.any)
  have T_w1 := Lib.hid (T_w.out.at hb)
  have B_w1 := Lib.hid (B_w.out.trans (hb.mono B_w.out.size))
  clear B_w T_w
  clear hX hb
  obtain rfl : m1 = 32 := by rw [← X1_w1.out.2.1]; exact jn_len _ _ _
  go_wp2_with fail
  refine (derive_any A1 none (jn [] [] []) [] 32 d1 0 0 w1 T_w1.out X1_w1.out (Txt.nil _ _) (by omega) (by omega)).mono ?_
  rintro e' w2 ⟨⟨P0, p0, u0, P1, p1, u1, P2, p2, u2, P3, p3, u3, P4, p4, u4, P5, p5, u5, P6, p6, u6⟩, rfl, hE, hb⟩
  have K3_w2 := Lib.hid ((show Txt Any w2 P3 p3 u3 _ from hE.any.t3))
  have K6_w2 := Lib.hid ((show Txt Any w2 P6 p6 u6 _ from hE.any.t6))
  have T_w2 := Lib.hid (T_w1.out.at hb)
  have X1_w2 := Lib.hid (X1_w1.out.below hb)
  have B_w2 := Lib.hid (B_w1.out.trans (hb.mono B_w1.out.size))
  clear B_w1 T_w1 X1_w1
  clear hE hb
  clear X1_w2
  obtain rfl : p6 = 32 := by rw [← K6_w2.out.2.1, ep_ini]; exact lb_len (by decide) (by simp)
  obtain rfl : p3 = 32 := by rw [← K3_w2.out.2.1, ep_exp]; exact lb_len (by decide) (by simp)
  dsimp only
  clear K6_w2
  have b0 := (Below.refl w2.heap.size w2).alloc (Nat.le_refl _) (.cells #[.slice P0 p0 u0, .slice P1 p1 u1, .slice P2 p2 u2, .slice P3 32 u3, .slice P4 p4 u4, .slice P5 p5 u5, .slice P6 32 u6] 28)
  have r0 := Row7.new w2 (.slice P0 p0 u0) (.slice P1 p1 u1) (.slice P2 p2 u2) (.slice P3 32 u3) (.slice P4 p4 u4) (.slice P5 p5 u5) (.slice P6 32 u6)
  obtain ⟨w3, hw3⟩ : ∃ W, w2.alloc (.cells #[.slice P0 p0 u0, .slice P1 p1 u1, .slice P2 p2 u2, .slice P3 32 u3, .slice P4 p4 u4, .slice P5 p5 u5, .slice P6 32 u6] 28) = W := ⟨_, rfl⟩
  rw [hw3] at b0 r0
  have hlt := r0.lt
  have hb := b0
  have T_w3 := Lib.hid (T_w2.out.at hb)
  have K3_w3 := Lib.hid (K3_w2.out.below hb)
  have B_w3 := Lib.hid (B_w2.out.trans (hb.mono B_w2.out.size))
  clear B_w2 T_w2 K3_w2
  have R_w3 := Lib.hid r0
  clear hb b0 r0
  obtain ⟨s0, s1, s2, s3, s4, s5, s6⟩ := R_w3.out.cs
  go_wp2_with (rw [hw3])
  skip
  refine (export_any ⟨P0, p0, u0, P1, p1, u1, P2, p2, u2, P3, 32, u3, P4, p4, u4, P5, p5, u5, P6, 32, u6⟩ none (ep (jn [] [] []) []).exp ⟨#[120]⟩ [] 0 0 5 w3 T_w3.out K3_w3.out (Txt.nil _ _) (by show 32 ≤ 1000000; omega) (by omega)).mono ?_
  rintro e' w4 ⟨A4, m4, d4, rfl, hX, hb⟩
  have T_w4 := Lib.hid (T_w3.out.at hb)
  have K3_w4 := Lib.hid (K3_w3.out.below hb)
  have B_w4 := Lib.hid (B_w3.out.trans (hb.mono B_w3.out.size))
  clear B_w3 T_w3 K3_w3
  obtain rfl : m4 = 5 := by rw [← hX.2.1]; exact xp_len (n := 5) (by decide) (by omega)
  clear hX hb
  clear K3_w4
  go_wp2_with fail
  refine (confirmed_any none none [] [] 0 0 0 0 _ T_w4.out (Txt.nil _ _) (Txt.nil _ _) (by omega) (by omega)).mono ?_
  rintro e' w5 ⟨A5, m5, d5, rfl, hX, hb⟩
  have T_w5 := Lib.hid (T_w4.out.at hb)
  have B_w5 := Lib.hid (B_w4.out.trans (hb.mono B_w4.out.size))
  clear B_w4 T_w4
  obtain rfl : m5 = 32 := by rw [← hX.2.1]; exact Sha.sum_len _
  clear hX hb
  go_wp2_with fail
  refine (interim_any none none [] [] 0 0 0 0 _ T_w5.out (Txt.nil _ _) (Txt.nil _ _) (by omega) (by omega)).mono ?_
  rintro e' w6 ⟨A6, m6, d6, rfl, hX, hb⟩
  have T_w6 := Lib.hid (T_w5.out.at hb)
  have B_w6 := Lib.hid (B_w5.out.trans (hb.mono B_w5.out.size))
  clear B_w5 T_w5
  obtain rfl : m6 = 32 := by rw [← hX.2.1]; exact Sha.sum_len _
  clear hX hb
  go_wp2
  go_ret
  exact ⟨rfl, B_w6.out⟩
end Go.Proofs.YtikafijdfgkgkaaDoor.Sc
