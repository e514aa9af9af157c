/- Walks: infoOf, Label. -/
import Derived.Test.YtfcnhendebjjeaaDoorHkWalkI
namespace Go.Proofs.YtfcnhendebjjeaaDoor.Sha
set_option linter.all false
open Go.RowKit Iter

theorem front_str : strL ⟨#[71, 75, 65, 32, 49, 46, 48, 32]⟩ = front := by decide +kernel
theorem infoL_lt {l c : List Nat} (hl : ∀ j, gt l j < 256) (hc : ∀ j, gt c j < 256) (h40 : l.length ≤ 40) (n : Nat) : ∀ j, gt (infoL l c n) j < 256 :=
  gt_append_lt (two_lt n) (gt_append_lt (gt_lt_of_mem (by intro v hv; simp only [List.mem_cons, List.not_mem_nil, or_false] at hv; omega)) (gt_append_lt (gt_lt_of_mem (by decide)) (gt_append_lt hl (gt_append_lt (lenB_lt _) hc))))
theorem infoL_len (l c : List Nat) (n : Nat) : (infoL l c n).length = 2 + (1 + (8 + (l.length + ((lenB c.length).length + c.length)))) := by
  simp [infoL, two, front]; omega

set_option maxHeartbeats 2000000 in
set_option maxRecDepth 100000 in
theorem infoOf_any (s : ByteArray) (A2 : Option Addr) (b : List Nat) (nb cb x : Nat) (w : World) (hR : Rd w w.heap.size A2 b) (hn : b.length = nb) (hc : A2 = none → cb = 0) (hx : x ≤ 8160) (hs : s.size ≤ 40) (hb : nb ≤ 16000) :
    Calls Tryd.prog 25 #[.string s, .slice A2 nb cb, .int .i64 x] w fun e w' => ∃ v, e = .returned v ∧ w'.ownsRow w.heap.size 5 1 v (infoL (strL s) b x).length (bcells (infoL (strL s) b x)) ∧ Below w.heap.size w w' := by
  have HR := Lib.hid hR; have HN := Lib.hid (fun _ : Unit => hn); have HC := Lib.hid hc
  clear hR hn hc
  have x1 : IntKind.i64.wrap (8 + (s.size : Int)) = ((8 + s.size : Nat) : Int) := by rw [IntKind.wrap_i64]; omega
  have x2 : IntKind.u8.wrap ((8 + s.size : Nat) : Int) = ((8 + s.size : Nat) : Int) := by rw [IntKind.wrap_u8]; omega
  have x3 : (8 + (s.size : Int)) = ((8 + s.size : Nat) : Int) := by omega
  have HF := Lib.hid (fun _ : Unit => front_str)
  go_enter Tryd.func25, Tryd.ntmps25
  go_wp2_with fail
  refine (two_any w.heap.size 0 x (.slice none 0 0) [] w w (World.ownsRow_nil w _ _ _) (fun j => by simp [gt]) (by omega) (by omega) (Below.refl _ _) (Nat.le_refl _)).mono ?_
  rintro e' w1 ⟨v1, rfl, h1, hb1⟩
  obtain ⟨A1, c1, rfl, hA1, hnc1, hcm1, hrd1, hlen1, hblk1⟩ := own_slice h1 (two_lt x)
  have HO1 := Lib.hid h1; have HB1 := Lib.hid hb1
  clear h1 hb1 hA1 hnc1 hcm1 hrd1 hlen1 hblk1
  generalize hk : 8 + s.size = k at *
  have HK := Lib.hid (fun _ : Unit => hk); clear hk
  have hk48 : k ≤ 48 := by have := HK.out (); omega
  have HA := Lib.hid ((Below.refl w1.heap.size w1).alloc (Nat.le_refl _) (.cells #[.int .u8 (k : Int)] 5))
  have HO1a := Lib.hid (own_gen HO1.out HA.out)
  have HBy := Lib.hid (byte_rd w1 (k : Int) k rfl (by omega) (B := w1.heap.size + 1) (by omega))
  have HB1a := Lib.hid (HB1.out.alloc HB1.out.size (.cells #[.int .u8 (k : Int)] 5))
  go_wp2_with (at_builtin; refine wpList_append_gen rfl (.tmp 10) (.tmp 15) rfl w.heap.size (0 + 2) 1 1 (w1.heap.size + 1) (.slice A1 (0 + 2) c1) ([] ++ two x) [k] (some ⟨w1.heap.size, 0, none⟩) rfl rfl HO1a.out HBy.out rfl (fun e => by cases e) (by omega) (by have := HB1.out.size; simp; omega) ?_)
  intro v2 w2 h2 g2
  have hx2 := gt_append_lt (two_lt x) (gt_lt_of_mem (a := [k]) (by intro v hv; simp only [List.mem_cons, List.not_mem_nil, or_false] at hv; omega))
  have HW2 := Lib.hid h2; have HB2 := Lib.hid (under_own HB1a.out HO1a.out (Nat.le_refl _) g2 (by have := HB1.out.size; simp; omega))
  have HX2 := Lib.hid hx2
  clear h2 g2 hx2 HA HO1a HBy HB1a HO1 HB1
  obtain ⟨L2, hL2⟩ : ∃ L, two x ++ [k] = L := ⟨_, rfl⟩
  rw [hL2] at HW2 HX2
  have HL2 := Lib.hid (fun _ : Unit => hL2); clear hL2
  go_wp2_with (refine wpList_append_str rfl (.tmp 17) (.const (.string ⟨#[71, 75, 65, 32, 49, 46, 48, 32]⟩)) rfl w.heap.size 3 v2 L2 ⟨#[71, 75, 65, 32, 49, 46, 48, 32]⟩ rfl rfl HW2.out (by decide) HB2.out.size ?_)
  intro v3 w3 h3 g3
  rw [HF.out ()] at h3
  have HW3 := Lib.hid h3; have HB3 := Lib.hid (under_own HB2.out HW2.out (Nat.le_refl _) g3 HB2.out.size)
  have HX3 := Lib.hid (gt_append_lt HX2.out (gt_lt_of_mem (a := front) (by decide)))
  clear h3 g3
  obtain ⟨L3, hL3⟩ : ∃ L, L2 ++ front = L := ⟨_, rfl⟩
  rw [hL3] at HW3 HX3
  have HL3 := Lib.hid (fun _ : Unit => hL3); clear hL3
  go_wp2_with (refine wpList_append_str rfl (.tmp 19) (.tmp 20) rfl w.heap.size 11 v3 L3 s rfl rfl HW3.out (by omega) HB3.out.size ?_)
  intro v4 w4 h4 g4
  have HW4 := Lib.hid h4; have HB4 := Lib.hid (under_own HB3.out HW3.out (Nat.le_refl _) g4 HB3.out.size)
  have HX4 := Lib.hid (gt_append_lt HX3.out (strL_lt s))
  clear h4 g4
  obtain ⟨L4, hL4⟩ : ∃ L, L3 ++ strL s = L := ⟨_, rfl⟩
  rw [hL4] at HW4 HX4
  have HL4 := Lib.hid (fun _ : Unit => hL4); clear hL4
  obtain ⟨m4, hm4⟩ : ∃ m4, 11 + s.size = m4 := ⟨_, rfl⟩
  have hm4' : m4 ≤ 51 := by omega
  rw [hm4] at HW4
  have HM4 := Lib.hid (fun _ : Unit => hm4); clear hm4
  obtain ⟨A4, c4, rfl, hA4, hnc4, hcm4, hrd4, hlen4, hblk4⟩ := own_slice HW4.out HX4.out
  clear hA4 hnc4 hcm4 hrd4 hlen4 hblk4
  go_wp2_with fail
  refine (lenOf_any w.heap.size m4 nb (.slice A4 m4 c4) L4 w w4 HW4.out HX4.out (by omega) hb HB4.out HB4.out.size).mono ?_
  rintro e' w5 ⟨v5, rfl, h5, hb5⟩
  have HW5 := Lib.hid h5; have HB5 := Lib.hid hb5
  have HX5 := Lib.hid (gt_append_lt HX4.out (lenB_lt nb))
  have hl2 := lenB_len nb
  clear h5 hb5
  obtain ⟨L5, hL5⟩ : ∃ L, L4 ++ lenB nb = L := ⟨_, rfl⟩
  rw [hL5] at HW5 HX5
  have HL5 := Lib.hid (fun _ : Unit => hL5); clear hL5
  obtain ⟨m5, hm5⟩ : ∃ m5, m4 + (lenB nb).length = m5 := ⟨_, rfl⟩
  have hm5' : m5 ≤ 60 := by omega
  rw [hm5] at HW5
  have HM5 := Lib.hid (fun _ : Unit => hm5); clear hm5
  go_wp2_with (at_builtin; refine wpList_append_gen rfl (.tmp 26) (.tmp 27) rfl w.heap.size m5 nb cb w.heap.size v5 L5 b A2 rfl rfl HW5.out (HR.out.below HB5.out) (HN.out ()) HC.out (by omega) HB5.out.size ?_)
  intro v6 w6 h6 g6
  have HW6 := Lib.hid h6; have HB6 := Lib.hid (under_own HB5.out HW5.out (Nat.le_refl _) g6 HB5.out.size)
  clear h6 g6
  go_wp2
  go_ret
  have e : L5 ++ b = infoL (strL s) b x := by
    rw [← HL5.out (), ← HL4.out (), ← HL3.out (), ← HL2.out ()]
    unfold infoL; rw [strL_len, HK.out (), HN.out ()]; simp [List.append_assoc]
  have el : m5 + nb = (infoL (strL s) b x).length := by
    rw [infoL_len, strL_len, HN.out ()]; have := HM5.out (); have := HM4.out (); omega
  refine ⟨v6, rfl, ?_, HB6.out⟩
  rw [← el, ← e]
  exact HW6.out

set_option maxHeartbeats 1000000 in
theorem label_any (s : ByteArray) (A A2 : Option Addr) (key b : List Nat) (n c nb cb N : Nat) (w : World) (hT : Tables w) (hR : Rd w w.heap.size A key) (hn : key.length = n) (hnc : n ≤ c) (hc : c ≤ 9223372036854775807) (hm : n ≤ 100000)
    (hR2 : Rd w w.heap.size A2 b) (hn2 : b.length = nb) (hcb : A2 = none → cb = 0) (hN : N ≤ 8160) (hs : s.size ≤ 40) (hb : nb ≤ 16000) :
    Calls Tryd.prog 14 #[.slice A n c, .string s, .slice A2 nb cb, .int .i64 N] w fun e w' => ∃ h, e = .returned (.slice (some ⟨h, 0, none⟩) N N) ∧ w'.ownsRow w.heap.size 5 1 (.slice (some ⟨h, 0, none⟩) N N) N (bcells (expand key (infoL (strL s) b N) N)) ∧ Below w.heap.size w w' := by
  have h2 := hT.lt
  have HT := Lib.hid hT; have HR := Lib.hid hR; have HN := Lib.hid (fun _ : Unit => hn); have HR2 := Lib.hid hR2; have HN2 := Lib.hid (fun _ : Unit => hn2); have HC := Lib.hid hcb
  clear hT hR hn hR2 hn2 hcb
  have hdec : decide ((0 : Int) ≤ (N : Int) ∧ (N : Int) ≤ 8160) = true := decide_eq_true ⟨by omega, by omega⟩
  have y1 : ¬ (40 : Int) < (s.size : Int) := by omega
  have y2 : ¬ (16000 : Int) < (nb : Int) := by omega
  have hl : (infoL (strL s) b N).length ≤ 17000 := by
    rw [infoL_len, strL_len, HN2.out ()]; have := lenB_len nb; omega
  have HX := Lib.hid (infoL_lt (n := N) (strL_lt s) HR2.out.1 (by rw [strL_len]; exact hs))
  obtain ⟨info, hinfo⟩ : ∃ i, infoL (strL s) b N = i := ⟨_, rfl⟩
  rw [hinfo] at hl HX ⊢
  have HIN := Lib.hid (fun _ : Unit => hinfo); clear hinfo
  go_enter Tryd.func14, Tryd.ntmps14
  go_wp2_with fail
  refine (asked_any _ _).mono ?_
  rintro e' w1 ⟨rfl, rfl⟩
  rw [hdec]
  clear hdec
  go_wp2_with fail
  refine (infoOf_any s A2 b nb cb N w HR2.out (HN2.out ()) HC.out hN hs hb).mono ?_
  rintro e' w2 ⟨v2, rfl, h2', hb2⟩
  rw [HIN.out ()] at h2'
  obtain ⟨A3, c3, rfl, hA3, hnc3, hcm3, hrd3, hlen3, hblk3⟩ := own_slice h2' HX.out
  have HRD := Lib.hid hrd3; have HB2 := Lib.hid hb2
  clear h2' hb2 hA3 hrd3 hlen3 hblk3
  generalize hil : info.length = ni at *
  have HIL := Lib.hid (fun _ : Unit => hil); clear hil
  go_wp2_with fail
  refine (expand_any A A3 key info n c ni c3 N w2 (HT.out.below HB2.out h2) ((HR.out.below HB2.out).more HB2.out.size) (HN.out ()) hnc hc hm HRD.out (HIL.out ()) hnc3 hcm3 (by omega) hN).mono ?_
  rintro e' w3 ⟨h3, rfl, hown3, hb3⟩
  have HO3 := Lib.hid hown3; have HB3 := Lib.hid (HB2.out.trans (hb3.mono HB2.out.size))
  clear hown3 hb3
  go_wp2
  go_ret
  exact ⟨h3, rfl, own_lower HO3.out HB2.out.size, HB3.out⟩

end Go.Proofs.YtfcnhendebjjeaaDoor.Sha
