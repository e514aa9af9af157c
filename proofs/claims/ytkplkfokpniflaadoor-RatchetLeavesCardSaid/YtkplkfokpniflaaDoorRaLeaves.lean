/- RatchetLeaves: the law's walk. Written by tools/mk_raleaves.py. -/
import Derived.Test.YtkplkfokpniflaaDoorRaLeavesP
namespace Go.Proofs.YtkplkfokpniflaaDoor.Ra
set_option linter.all false
open Go.RowKit
open Wr (Txt Any New bcells gt)

set_option maxHeartbeats 8000000 in
set_option maxRecDepth 100000 in
theorem ratchetLeaves_walk (A : Option Addr) (b : List Nat) (n c : Nat) (deep leaf : Int) (w : World) (hT : Tabs w) (hA : Txt Any w A n c b) (hd : (Lit.int .u8 deep).wf = true) (hl : (Lit.int .u16 leaf).wf = true) :
    Calls Tryd.prog 7 #[.slice A n c, .int .u8 deep, .int .u16 leaf] w fun e w' => e = .returned (.bool true) ∧ Below w.heap.size w w' := by
  obtain ⟨dp, rfl, hdp⟩ := Sha.byte_of_wf hd
  obtain ⟨lf, rfl, hlf⟩ : ∃ l : Nat, leaf = (l : Int) ∧ l < 65536 := by
    simp [Lit.wf, IntKind.min, IntKind.max, IntKind.bits, IntKind.signed] at hl
    exact ⟨leaf.toNat, by omega, by omega⟩
  have HT := Lib.hid hT; have HA := Lib.hid hA
  obtain ⟨D, hD⟩ : ∃ D, dp % 16 = D := ⟨_, rfl⟩
  obtain ⟨d, hdd⟩ : ∃ d, D + 1 = d := ⟨_, rfl⟩
  have yD : (dp : Int) % 16 = (D : Int) := by omega
  have yd : (1 : Int) + (D : Int) = (d : Int) := by omega
  have zd : d ≤ 16 := by omega
  obtain ⟨P, hP⟩ : ∃ P, 2 ^ d = P := ⟨_, rfl⟩
  obtain ⟨L, hL⟩ : ∃ L, lf % P = L := ⟨_, rfl⟩
  have hP16 : P ≤ 65536 := by rw [← hP]; exact Nat.pow_le_pow_right (by decide) zd
  have hP0 : 0 < P := by rw [← hP]; exact Nat.two_pow_pos d
  have hLP : L < P := by rw [← hL]; exact Nat.mod_lt _ hP0
  have yP : IntKind.i64.wrap (2 ^ d) = (P : Int) := by
    have e : (2 : Int) ^ d = (P : Int) := by rw [← hP]; simp
    rw [e, IntKind.wrap_i64]; omega
  have yP' : wrap64 (2 ^ d) = (P : Int) := by
    have := yP; rw [IntKind.wrap_i64] at this; unfold wrap64; exact this
  have yL : (lf : Int) % (P : Int) = (L : Int) := by rw [← hL]; simp
  have HS := Lib.hid (And.intro hP (And.intro hLP (And.intro hdd hP16)))
  clear hT hA hd hl
  go_enter Tryd.func7, Tryd.ntmps7
  go_wp2_with fail
  refine (head_any w HT.out).mono ?_
  rintro e' w1 ⟨rfl, hb⟩
  have B1 := Lib.hid hb
  clear hb
  by_cases h32 : n = 32
  case neg =>
    have CS := secret_is A b n c (d : Int) (L : Int) w1 (HT.out.at B1.out) (HA.out.below B1.out)
    rw [show secretR b d L = [] from if_neg (fun h => h32 (by rw [← h.1]; exact HA.out.len.symm))] at CS
    have CSH := Lib.hid CS
    clear CS hP hL hP16 hLP hD hdd
    go_wp2_with fail
    refine CSH.out.mono ?_
    rintro e' w2 ⟨A2, n2, c2, rfl, hX, hb⟩
    obtain rfl : n2 = 0 := by rw [← hX.len]; rfl
    go_wp2
    go_ret
    exact ⟨rfl, B1.out.trans (hb.mono B1.out.size)⟩
  subst h32
  have yd1 : (d : Int) - 1 = (D : Int) := by omega
  obtain ⟨M, hM⟩ : ∃ M, 2 ^ D = M := ⟨_, rfl⟩
  have hM16 : M ≤ 65536 := by rw [← hM]; exact Nat.pow_le_pow_right (by decide) (show D ≤ 16 by omega)
  have hM0 : 0 < M := by rw [← hM]; exact Nat.two_pow_pos D
  obtain ⟨l1, hl1⟩ : ∃ x, L / M = x := ⟨_, rfl⟩
  obtain ⟨l2, hl2⟩ : ∃ x, L % M = x := ⟨_, rfl⟩
  obtain ⟨m1, hm1⟩ : ∃ x : Int, (M : Int) - 1 = x := ⟨_, rfl⟩
  have hb32 : b.length = 32 := HA.out.len
  obtain ⟨h, hh⟩ : ∃ h, oneD b (bitAt L D) = h := ⟨_, rfl⟩
  have hh32 : h.length = 32 := by rw [← hh]; exact oneD_len _ _
  have e1 : secretR b 1 (l1 : Int) = h := by rw [← hl1, ← hM, ← hh]; exact secret_half hb32 (by rw [hdd, hP]; exact hLP)
  obtain ⟨V, hV⟩ : ∃ V, secretR b (d : Int) (L : Int) = V := ⟨_, rfl⟩
  have e2 : secretR h (D : Int) (l2 : Int) = V := by rw [← hl2, ← hM, ← hh, ← hV, ← hdd]; exact secret_rest hb32 (by omega) (by rw [hdd, hP]; exact hLP)
  have e3 : secretR b 0 0 = b := secret_zero hb32
  have HE := Lib.hid (And.intro e1 (And.intro e2 (And.intro e3 hV)))
  have HH := Lib.hid hh32
  have HM2 : Hid (wrap64 (2 ^ D) = (M : Int) ∧ IntKind.i64.wrap (2 ^ D) = (M : Int)) := Lib.hid (by
    have e : (2 : Int) ^ D = (M : Int) := by rw [← hM]; simp
    rw [e, IntKind.wrap_i64]; unfold wrap64; omega)
  have HM1 : Hid ((M : Int) - 1 = m1) := Lib.hid hm1
  have HW1 : Hid (wrap64 m1 = m1 ∧ IntKind.i64.wrap m1 = m1) := Lib.hid (by unfold wrap64; rw [IntKind.wrap_i64]; omega)
  have HAN : Hid (bits .and .i64 (L : Int) m1 = (l2 : Int)) := Lib.hid (by rw [← hm1, ← hM, and_mask L D (by omega), ← hl2, hM]; simp)
  have yl1 : (L : Int) / 2 ^ D = (l1 : Int) := by
    have e : (2 : Int) ^ D = (M : Int) := by rw [← hM]; simp
    rw [e, ← hl1]; simp
  have hLL : l1 ≤ L ∧ l2 ≤ L := ⟨by rw [← hl1]; exact Nat.div_le_self L M, by rw [← hl2]; exact Nat.mod_le L M⟩
  have hl1b : l1 < 65537 := Nat.lt_of_le_of_lt hLL.1 (Nat.lt_of_lt_of_le hLP (Nat.le_succ_of_le hP16))
  have hl2b : l2 < 65537 := Nat.lt_of_le_of_lt hLL.2 (Nat.lt_of_lt_of_le hLP (Nat.le_succ_of_le hP16))
  have HDD : Hid (IntKind.i64.wrap (D : Int) = (D : Int)) := Lib.hid (by rw [IntKind.wrap_i64]; omega)
  have CS := secret_is A b 32 c 1 (l1 : Int) w1 (HT.out.at B1.out) (HA.out.below B1.out)
  rw [HE.out.1] at CS
  have CSH := Lib.hid CS
  clear CS hP hL hP16 hLP hD hdd hM hM16 hM0 hl1 hl2 hm1 hh e1 e2 e3 hV hh32 hb32 hLL
  go_wp2_with fail
  refine CSH.out.mono ?_
  rintro e' w2 ⟨A2, n2, c2, rfl, hX, hb⟩
  obtain rfl : n2 = 32 := by rw [← hX.len]; exact HH.out
  have HX := Lib.hid hX.any.drew
  have HBd := Lib.hid (B1.out.trans (hb.mono B1.out.size)).drew
  have HAd := Lib.hid (HA.out.below HBd.out)
  have HTd := Lib.hid (HT.out.at HBd.out)
  clear hX hb
  go_wp2_with fail
  try simp only [Act.put]
  refine Wr.region_calm ?_
  refine wp_region_any (by kernel_rfl) ?_
  change wpAny _ _ _ _ _ _ _ (World.drew w2)
  generalize World.drew w2 = wd at *
  have HSwd : Hid (Below wd.heap.size wd wd) := Lib.hid (Below.refl _ _)
  refine wpAny_of_held (S := fun W => Below wd.heap.size wd W) _ _ _ _ ?_
  refine wpAnyH_take (i := 0) (v := ?ve1) rfl (by kernel_rfl) (by kernel_rfl) (by kernel_rfl) (fun _ _ _ h => h) (Or.inl ⟨by rfl, ?ye1⟩) HSwd.out ?re1
  case ye1 => (intro w' hSw; clear hSw; go_simp; try with_reducible rfl)
  simp only [List.getElem_toArray, List.getElem_cons_succ, List.getElem_cons_zero, Act.put, List.setIfInBounds_toArray, List.set_cons_zero, List.set_cons_succ]
  refine wpAnyH_take (i := 1) (v := ?ve2) rfl (by kernel_rfl) (by kernel_rfl) (by kernel_rfl) (fun _ _ _ h => h) (Or.inl ⟨by rfl, ?ye2⟩) HSwd.out ?re2
  case ye2 => (intro w' hSw; clear hSw; go_simp; try with_reducible rfl)
  simp only [List.getElem_toArray, List.getElem_cons_succ, List.getElem_cons_zero, Act.put, List.setIfInBounds_toArray, List.set_cons_zero, List.set_cons_succ]
  refine wpAnyH_take (i := 2) (v := ?ve3) rfl (by kernel_rfl) (by kernel_rfl) (by kernel_rfl) (fun _ _ _ h => h) (Or.inl ⟨by rfl, ?ye3⟩) HSwd.out ?re3
  case ye3 => (intro w' hSw; clear hSw; go_simp; try with_reducible rfl)
  simp only [List.getElem_toArray, List.getElem_cons_succ, List.getElem_cons_zero, Act.put, List.setIfInBounds_toArray, List.set_cons_zero, List.set_cons_succ]
  refine wpAnyH_take (i := 3) (v := ?ve4) rfl (by kernel_rfl) (by kernel_rfl) (by kernel_rfl) (fun _ _ _ h => h) (Or.inl ⟨by rfl, ?ye4⟩) HSwd.out ?re4
  case ye4 => (intro w' hSw; clear hSw; go_simp; try with_reducible rfl)
  simp only [List.getElem_toArray, List.getElem_cons_succ, List.getElem_cons_zero, Act.put, List.setIfInBounds_toArray, List.set_cons_zero, List.set_cons_succ]
  refine wpAnyH_take (i := 4) (v := ?ve5) rfl (by kernel_rfl) (by kernel_rfl) (by kernel_rfl) (fun _ _ _ h => h) (Or.inl ⟨by rfl, ?ye5⟩) HSwd.out ?re5
  case ye5 => (intro w' hSw; clear hSw; go_simp; try with_reducible rfl)
  simp only [List.getElem_toArray, List.getElem_cons_succ, List.getElem_cons_zero, Act.put, List.setIfInBounds_toArray, List.set_cons_zero, List.set_cons_succ]
  refine wpAnyH_take (i := 5) (v := ?ve6) rfl (by kernel_rfl) (by kernel_rfl) (by kernel_rfl) (fun _ _ _ h => h) (Or.inl ⟨by rfl, ?ye6⟩) HSwd.out ?re6
  case ye6 => (intro w' hSw; clear hSw; go_simp; try with_reducible rfl)
  simp only [List.getElem_toArray, List.getElem_cons_succ, List.getElem_cons_zero, Act.put, List.setIfInBounds_toArray, List.set_cons_zero, List.set_cons_succ]
  refine wpAnyH_take (i := 6) (v := ?ve7) rfl (by kernel_rfl) (by kernel_rfl) (by kernel_rfl) (fun _ _ _ h => h) (Or.inl ⟨by rfl, ?ye7⟩) HSwd.out ?re7
  case ye7 => (intro w' hSw; clear hSw; go_simp; try with_reducible rfl)
  simp only [List.getElem_toArray, List.getElem_cons_succ, List.getElem_cons_zero, Act.put, List.setIfInBounds_toArray, List.set_cons_zero, List.set_cons_succ]
  refine wpAnyH_take (i := 7) (v := ?ve8) rfl (by kernel_rfl) (by kernel_rfl) (by kernel_rfl) (fun _ _ _ h => h) (Or.inl ⟨by rfl, ?ye8⟩) HSwd.out ?re8
  case ye8 => (intro w' hSw; clear hSw; go_simp; try with_reducible rfl)
  simp only [List.getElem_toArray, List.getElem_cons_succ, List.getElem_cons_zero, Act.put, List.setIfInBounds_toArray, List.set_cons_zero, List.set_cons_succ]
  refine wpAnyH_take (i := 8) (v := ?ve9) rfl (by kernel_rfl) (by kernel_rfl) (by kernel_rfl) (fun _ _ _ h => h) (Or.inl ⟨by rfl, ?ye9⟩) HSwd.out ?re9
  case ye9 => (intro w' hSw; clear hSw; go_simp; try with_reducible rfl)
  simp only [List.getElem_toArray, List.getElem_cons_succ, List.getElem_cons_zero, Act.put, List.setIfInBounds_toArray, List.set_cons_zero, List.set_cons_succ]
  refine wpAnyH_take (i := 9) (v := ?ve10) rfl (by kernel_rfl) (by kernel_rfl) (by kernel_rfl) (fun _ _ _ h => h) (Or.inl ⟨by rfl, ?ye10⟩) HSwd.out ?re10
  case ye10 => (intro w' hSw; clear hSw; go_simp; try with_reducible rfl)
  simp only [List.getElem_toArray, List.getElem_cons_succ, List.getElem_cons_zero, Act.put, List.setIfInBounds_toArray, List.set_cons_zero, List.set_cons_succ]
  refine wpAnyH_take (i := 12) (v := ?ve11) rfl (by kernel_rfl) (by kernel_rfl) (by kernel_rfl) (fun _ _ _ h => h) (Or.inl ⟨by rfl, ?ye11⟩) HSwd.out ?re11
  case ye11 => (intro w' hSw; clear hSw; go_simp; try with_reducible rfl)
  simp only [List.getElem_toArray, List.getElem_cons_succ, List.getElem_cons_zero, Act.put, List.setIfInBounds_toArray, List.set_cons_zero, List.set_cons_succ]
  refine wpAnyH_take (i := 13) (v := ?ve12) rfl (by kernel_rfl) (by kernel_rfl) (by kernel_rfl) (fun _ _ _ h => h) (Or.inl ⟨by rfl, ?ye12⟩) HSwd.out ?re12
  case ye12 => (intro w' hSw; clear hSw; go_simp; try with_reducible rfl)
  simp only [List.getElem_toArray, List.getElem_cons_succ, List.getElem_cons_zero, Act.put, List.setIfInBounds_toArray, List.set_cons_zero, List.set_cons_succ]
  refine wpAnyH_take (i := 14) (v := ?ve13) rfl (by kernel_rfl) (by kernel_rfl) (by kernel_rfl) (fun _ _ _ h => h) (Or.inl ⟨by rfl, ?ye13⟩) HSwd.out ?re13
  case ye13 => (intro w' hSw; have hq_wd : Below wd.heap.size wd w' := hSw; have hq := hq_wd; have z := HDD.out; clear hSw; try clear hq hq_wd; go_simp; try with_reducible rfl)
  simp only [List.getElem_toArray, List.getElem_cons_succ, List.getElem_cons_zero, Act.put, List.setIfInBounds_toArray, List.set_cons_zero, List.set_cons_succ]
  refine wpAnyH_take (i := 15) (v := ?ve14) rfl (by kernel_rfl) (by kernel_rfl) (by kernel_rfl) (fun _ _ _ h => h) (Or.inl ⟨by rfl, ?ye14⟩) HSwd.out ?re14
  case ye14 => (intro w' hSw; clear hSw; go_simp; try with_reducible rfl)
  simp only [List.getElem_toArray, List.getElem_cons_succ, List.getElem_cons_zero, Act.put, List.setIfInBounds_toArray, List.set_cons_zero, List.set_cons_succ]
  refine wpAnyH_take (i := 16) (v := ?ve15) rfl (by kernel_rfl) (by kernel_rfl) (by kernel_rfl) (fun _ _ _ h => h) (Or.inl ⟨by rfl, ?ye15⟩) HSwd.out ?re15
  case ye15 => (intro w' hSw; clear hSw; go_simp; try with_reducible rfl)
  simp only [List.getElem_toArray, List.getElem_cons_succ, List.getElem_cons_zero, Act.put, List.setIfInBounds_toArray, List.set_cons_zero, List.set_cons_succ]
  refine wpAnyH_take (i := 17) (v := ?ve16) rfl (by kernel_rfl) (by kernel_rfl) (by kernel_rfl) (fun _ _ _ h => h) (Or.inl ⟨by rfl, ?ye16⟩) HSwd.out ?re16
  case ye16 => (intro w' hSw; have hq_wd : Below wd.heap.size wd w' := hSw; have hq := hq_wd; have z := HDD.out; clear hSw; try clear hq hq_wd; go_simp; try with_reducible rfl)
  simp only [List.getElem_toArray, List.getElem_cons_succ, List.getElem_cons_zero, Act.put, List.setIfInBounds_toArray, List.set_cons_zero, List.set_cons_succ]
  refine wpAnyH_take (i := 18) (v := ?ve17) rfl (by kernel_rfl) (by kernel_rfl) (by kernel_rfl) (fun _ _ _ h => h) (Or.inl ⟨by rfl, ?ye17⟩) HSwd.out ?re17
  case ye17 => (intro w' hSw; have hq_wd : Below wd.heap.size wd w' := hSw; have hq := hq_wd; have z := HM2.out.1; have z2 := HM2.out.2; clear hSw; try clear hq hq_wd; go_simp; try with_reducible rfl)
  simp only [List.getElem_toArray, List.getElem_cons_succ, List.getElem_cons_zero, Act.put, List.setIfInBounds_toArray, List.set_cons_zero, List.set_cons_succ]
  refine wpAnyH_take (i := 19) (v := ?ve18) rfl (by kernel_rfl) (by kernel_rfl) (by kernel_rfl) (fun _ _ _ h => h) (Or.inl ⟨by rfl, ?ye18⟩) HSwd.out ?re18
  case ye18 => (intro w' hSw; have hq_wd : Below wd.heap.size wd w' := hSw; have hq := hq_wd; have z2 := HM1.out; have z3 := HW1.out.1; have z4 := HW1.out.2; clear hSw; try clear hq hq_wd; go_simp; try with_reducible rfl)
  simp only [List.getElem_toArray, List.getElem_cons_succ, List.getElem_cons_zero, Act.put, List.setIfInBounds_toArray, List.set_cons_zero, List.set_cons_succ]
  refine wpAnyH_take (i := 20) (v := ?ve19) rfl (by kernel_rfl) (by kernel_rfl) (by kernel_rfl) (fun _ _ _ h => h) (Or.inl ⟨by rfl, ?ye19⟩) HSwd.out ?re19
  case ye19 => (intro w' hSw; have hq_wd : Below wd.heap.size wd w' := hSw; have hq := hq_wd; have z := HAN.out; clear hSw; try clear hq hq_wd; go_simp; try with_reducible rfl)
  simp only [List.getElem_toArray, List.getElem_cons_succ, List.getElem_cons_zero, Act.put, List.setIfInBounds_toArray, List.set_cons_zero, List.set_cons_succ]
  refine wpAnyH_ready (rs := [10]) (by kernel_rfl) (by simp) ?_
  refine AllReadyH.cons rfl (fun K' hK => ?_) AllReadyH.nil
  simp only [List.getElem_toArray, List.getElem_cons_succ, List.getElem_cons_zero]
  go_simp
  refine (secret_is A b 32 c (d : Int) (L : Int) wd HTd.out HAd.out).mono ?_
  rintro e' u1 ⟨A3, n3, c3, rfl, hX, hb⟩
  have HU_wd_u1 := Lib.hid hb
  rw [HE.out.2.2.2] at hX
  have HV1 := Lib.hid hX.any
  clear hX hb
  refine hK.out _ _ HU_wd_u1.out (fun _ => ?_)
  clear hK
  try simp only [List.getElem_toArray, List.getElem_cons_succ, List.getElem_cons_zero, Act.put, List.setIfInBounds_toArray, List.set_cons_zero, List.set_cons_succ]
  have HSu1 : Hid (Below u1.heap.size u1 u1) := Lib.hid (Below.refl _ _)
  refine Sha.wpAnyH_more (S' := fun W => Below u1.heap.size u1 W) (fun W h => HU_wd_u1.out.trans (h.mono HU_wd_u1.out.size)) _ _ _ _ ?_
  refine wpAnyH_take (i := 11) (v := ?ve20) rfl (by kernel_rfl) (by kernel_rfl) (by kernel_rfl) (fun _ _ _ h => h) (Or.inl ⟨by rfl, ?ye20⟩) HSu1.out ?re20
  case ye20 => (intro w' hSw; have hq_u1 : Below u1.heap.size u1 w' := hSw; have hq_wd : Below wd.heap.size wd w' := HU_wd_u1.out.trans (hSw.mono HU_wd_u1.out.size); have hq := hq_wd; have cc := (HV1.out.below hq_u1).conv; clear hSw; try clear hq hq_wd hq_u1; go_simp; try with_reducible rfl)
  simp only [List.getElem_toArray, List.getElem_cons_succ, List.getElem_cons_zero, Act.put, List.setIfInBounds_toArray, List.set_cons_zero, List.set_cons_succ]
  refine wpAnyH_ready (rs := [21]) (by kernel_rfl) (by simp) ?_
  refine AllReadyH.cons rfl (fun K' hK => ?_) AllReadyH.nil
  simp only [List.getElem_toArray, List.getElem_cons_succ, List.getElem_cons_zero]
  go_simp
  refine (secret_is A2 h 32 c2 (D : Int) (l2 : Int) u1 (HTd.out.at HU_wd_u1.out) (HX.out.below HU_wd_u1.out)).mono ?_
  rintro e' u2 ⟨A4, n4, c4, rfl, hX, hb⟩
  have HU_u1_u2 := Lib.hid hb
  rw [HE.out.2.1] at hX
  have HV2 := Lib.hid hX.any
  clear hX hb
  have HU_wd_u2 := Lib.hid (HU_wd_u1.out.trans (HU_u1_u2.out.mono HU_wd_u1.out.size))
  refine hK.out _ _ HU_u1_u2.out (fun _ => ?_)
  clear hK
  try simp only [List.getElem_toArray, List.getElem_cons_succ, List.getElem_cons_zero, Act.put, List.setIfInBounds_toArray, List.set_cons_zero, List.set_cons_succ]
  have HSu2 : Hid (Below u2.heap.size u2 u2) := Lib.hid (Below.refl _ _)
  refine Sha.wpAnyH_more (S' := fun W => Below u2.heap.size u2 W) (fun W h => HU_u1_u2.out.trans (h.mono HU_u1_u2.out.size)) _ _ _ _ ?_
  refine wpAnyH_take (i := 22) (v := ?ve21) rfl (by kernel_rfl) (by kernel_rfl) (by kernel_rfl) (fun _ _ _ h => h) (Or.inl ⟨by rfl, ?ye21⟩) HSu2.out ?re21
  case ye21 => (intro w' hSw; have hq_u2 : Below u2.heap.size u2 w' := hSw; have hq_u1 : Below u1.heap.size u1 w' := HU_u1_u2.out.trans (hSw.mono HU_u1_u2.out.size); have hq_wd : Below wd.heap.size wd w' := HU_wd_u2.out.trans (hSw.mono HU_wd_u2.out.size); have hq := hq_wd; have cc := (HV2.out.below hq_u2).conv; clear hSw; try clear hq hq_wd hq_u1 hq_u2; go_simp; try with_reducible rfl)
  simp only [List.getElem_toArray, List.getElem_cons_succ, List.getElem_cons_zero, Act.put, List.setIfInBounds_toArray, List.set_cons_zero, List.set_cons_succ]
  refine wpAnyH_take (i := 23) (v := ?ve22) rfl (by kernel_rfl) (by kernel_rfl) (by kernel_rfl) (fun _ _ _ h => h) (Or.inl ⟨by rfl, ?ye22⟩) HSu2.out ?re22
  case ye22 => (intro w' hSw; clear hSw; go_simp; try with_reducible rfl)
  simp only [List.getElem_toArray, List.getElem_cons_succ, List.getElem_cons_zero, Act.put, List.setIfInBounds_toArray, List.set_cons_zero, List.set_cons_succ]
  refine wpAnyH_take (i := 24) (v := ?ve23) rfl (by kernel_rfl) (by kernel_rfl) (by kernel_rfl) (fun _ _ _ h => h) (Or.inl ⟨by rfl, ?ye23⟩) HSu2.out ?re23
  case ye23 => (intro w' hSw; clear hSw; go_simp; try with_reducible rfl)
  simp only [List.getElem_toArray, List.getElem_cons_succ, List.getElem_cons_zero, Act.put, List.setIfInBounds_toArray, List.set_cons_zero, List.set_cons_succ]
  refine wpAnyH_take (i := 25) (v := ?ve24) rfl (by kernel_rfl) (by kernel_rfl) (by kernel_rfl) (fun _ _ _ h => h) (Or.inl ⟨by rfl, ?ye24⟩) HSu2.out ?re24
  case ye24 => (intro w' hSw; clear hSw; go_simp; try with_reducible rfl)
  simp only [List.getElem_toArray, List.getElem_cons_succ, List.getElem_cons_zero, Act.put, List.setIfInBounds_toArray, List.set_cons_zero, List.set_cons_succ]
  refine wpAnyH_take (i := 26) (v := ?ve25) rfl (by kernel_rfl) (by kernel_rfl) (by kernel_rfl) (fun _ _ _ h => h) (Or.inl ⟨by rfl, ?ye25⟩) HSu2.out ?re25
  case ye25 => (intro w' hSw; clear hSw; go_simp; try with_reducible rfl)
  simp only [List.getElem_toArray, List.getElem_cons_succ, List.getElem_cons_zero, Act.put, List.setIfInBounds_toArray, List.set_cons_zero, List.set_cons_succ]
  refine wpAnyH_take (i := 29) (v := ?ve26) rfl (by kernel_rfl) (by kernel_rfl) (by kernel_rfl) (fun _ _ _ h => h) (Or.inl ⟨by rfl, ?ye26⟩) HSu2.out ?re26
  case ye26 => (intro w' hSw; clear hSw; go_simp; try with_reducible rfl)
  simp only [List.getElem_toArray, List.getElem_cons_succ, List.getElem_cons_zero, Act.put, List.setIfInBounds_toArray, List.set_cons_zero, List.set_cons_succ]
  refine wpAnyH_take (i := 30) (v := ?ve27) rfl (by kernel_rfl) (by kernel_rfl) (by kernel_rfl) (fun _ _ _ h => h) (Or.inl ⟨by rfl, ?ye27⟩) HSu2.out ?re27
  case ye27 => (intro w' hSw; have hq_u2 : Below u2.heap.size u2 w' := hSw; have hq_u1 : Below u1.heap.size u1 w' := HU_u1_u2.out.trans (hSw.mono HU_u1_u2.out.size); have hq_wd : Below wd.heap.size wd w' := HU_wd_u2.out.trans (hSw.mono HU_wd_u2.out.size); have hq := hq_wd; have cc := (HAd.out.below hq_wd).conv; clear hSw; try clear hq hq_wd hq_u1 hq_u2; go_simp; try with_reducible rfl)
  simp only [List.getElem_toArray, List.getElem_cons_succ, List.getElem_cons_zero, Act.put, List.setIfInBounds_toArray, List.set_cons_zero, List.set_cons_succ]
  refine wpAnyH_ready (rs := [27]) (by kernel_rfl) (by simp) ?_
  refine AllReadyH.cons rfl (fun K' hK => ?_) AllReadyH.nil
  simp only [List.getElem_toArray, List.getElem_cons_succ, List.getElem_cons_zero]
  go_simp
  refine (secret_is A b 32 c 0 0 u2 (HTd.out.at HU_wd_u2.out) (HAd.out.below HU_wd_u2.out)).mono ?_
  rintro e' u3 ⟨A5, n5, c5, rfl, hX, hb⟩
  have HU_u2_u3 := Lib.hid hb
  rw [HE.out.2.2.1] at hX
  have HV3 := Lib.hid hX.any
  clear hX hb
  have HU_u1_u3 := Lib.hid (HU_u1_u2.out.trans (HU_u2_u3.out.mono HU_u1_u2.out.size))
  have HU_wd_u3 := Lib.hid (HU_wd_u2.out.trans (HU_u2_u3.out.mono HU_wd_u2.out.size))
  refine hK.out _ _ HU_u2_u3.out (fun _ => ?_)
  clear hK
  try simp only [List.getElem_toArray, List.getElem_cons_succ, List.getElem_cons_zero, Act.put, List.setIfInBounds_toArray, List.set_cons_zero, List.set_cons_succ]
  have HSu3 : Hid (Below u3.heap.size u3 u3) := Lib.hid (Below.refl _ _)
  refine Sha.wpAnyH_more (S' := fun W => Below u3.heap.size u3 W) (fun W h => HU_u2_u3.out.trans (h.mono HU_u2_u3.out.size)) _ _ _ _ ?_
  refine wpAnyH_take (i := 28) (v := ?ve28) rfl (by kernel_rfl) (by kernel_rfl) (by kernel_rfl) (fun _ _ _ h => h) (Or.inl ⟨by rfl, ?ye28⟩) HSu3.out ?re28
  case ye28 => (intro w' hSw; have hq_u3 : Below u3.heap.size u3 w' := hSw; have hq_u2 : Below u2.heap.size u2 w' := HU_u2_u3.out.trans (hSw.mono HU_u2_u3.out.size); have hq_u1 : Below u1.heap.size u1 w' := HU_u1_u3.out.trans (hSw.mono HU_u1_u3.out.size); have hq_wd : Below wd.heap.size wd w' := HU_wd_u3.out.trans (hSw.mono HU_wd_u3.out.size); have hq := hq_wd; have cc := (HV3.out.below hq_u3).conv; clear hSw; try clear hq hq_wd hq_u1 hq_u2 hq_u3; go_simp; try with_reducible rfl)
  simp only [List.getElem_toArray, List.getElem_cons_succ, List.getElem_cons_zero, Act.put, List.setIfInBounds_toArray, List.set_cons_zero, List.set_cons_succ]
  refine wpAnyH_take (i := 31) (v := ?ve29) rfl (by kernel_rfl) (by kernel_rfl) (by kernel_rfl) (fun _ _ _ h => h) (Or.inl ⟨by rfl, ?ye29⟩) HSu3.out ?re29
  case ye29 => (intro w' hSw; clear hSw; go_simp; try with_reducible rfl)
  simp only [List.getElem_toArray, List.getElem_cons_succ, List.getElem_cons_zero, Act.put, List.setIfInBounds_toArray, List.set_cons_zero, List.set_cons_succ]
  refine wpAnyH_take (i := 32) (v := ?ve30) rfl (by kernel_rfl) (by kernel_rfl) (by kernel_rfl) (fun _ _ _ h => h) (Or.inl ⟨by rfl, ?ye30⟩) HSu3.out ?re30
  case ye30 => (intro w' hSw; clear hSw; go_simp; try with_reducible rfl)
  simp only [List.getElem_toArray, List.getElem_cons_succ, List.getElem_cons_zero, Act.put, List.setIfInBounds_toArray, List.set_cons_zero, List.set_cons_succ]
  refine wpAnyH_take (i := 33) (v := ?ve31) rfl (by kernel_rfl) (by kernel_rfl) (by kernel_rfl) (fun _ _ _ h => h) (Or.inl ⟨by rfl, ?ye31⟩) HSu3.out ?re31
  case ye31 => (intro w' hSw; clear hSw; go_simp; try with_reducible rfl)
  simp only [List.getElem_toArray, List.getElem_cons_succ, List.getElem_cons_zero, Act.put, List.setIfInBounds_toArray, List.set_cons_zero, List.set_cons_succ]
  refine wpAnyH_done (by kernel_rfl) ?_ _
  change Exit.then _ _ Exit.normal _ _
  go_wp2
  go_ret
  exact ⟨rfl, HBd.out.trans (HU_wd_u3.out.mono HBd.out.size)⟩
end Go.Proofs.YtkplkfokpniflaaDoor.Ra
