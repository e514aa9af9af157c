/- Walks: KeccakPlays. Written by tools/mk_kecplays.py. -/
import Derived.Test.YtocjdklieljelaaDoorKecBoth
import Derived.Deep.Slices
namespace Go.Proofs.YtocjdklieljelaaDoor.Kec
set_option linter.all false
open Go.RowKit
attribute [local go_sem ↓] Go.wp_at_zero Go.wp_at_succ

/-- calls that came in -/
def IsOps (w : World) (a : Option Addr) (len cap : Nat) : Prop :=
  (a = none ∧ len = 0 ∧ cap = 0) ∨ ∃ (x : Addr) (Wh Nn : Nat → Int) (A : Nat → Option Addr) (L C : Nat → Nat) (Z : Nat → List Int), a = some x ∧ len ≤ cap ∧ cap ≤ maxLen ∧
    ∀ k, k < cap → w.cell? (x.add (k * 3)) = some (.int .i64 (Wh k)) ∧ w.cell? (x.add (k * 3 + 1)) = some (.slice (A k) (L k) (C k)) ∧ IsRow .u8 w (A k) (L k) (C k) (Z k) ∧ w.cell? (x.add (k * 3 + 2)) = some (.int .i64 (Nn k))
theorem add_lit (a : Addr) (j : Nat) : a.add (j + 1) = ⟨(a.add j).block, (a.add j).off + 1, none⟩ := by rw [← Go.Deep.add_add]; rfl
theorem add_lit2 (a : Addr) (j : Nat) : a.add (j + 2) = ⟨(a.add j).block, (a.add j).off + 2, none⟩ := by rw [← Go.Deep.add_add]; rfl

set_option maxHeartbeats 1000000 in
theorem plays_bad (r : Int) (e : Nat) (a0 : Option Addr) (n c : Nat) (w : World) (hT : Tables w) (h : r < 8 ∨ 192 < r ∨ r % 8 ≠ 0) :
    Calls Tryd.prog 4 #[.int .i64 r, .int .u8 e, .slice a0 n c] w fun e w' => e = .returned (.bool true) ∧ Below w.heap.size w w' := by
  have HT := Lib.hid hT; have HX := Lib.hid h; clear hT h
  go_enter Tryd.func4, Tryd.ntmps4
  go_wp2_with fail
  refine (head_any _ HT.out).mono ?_
  rintro e' w1 ⟨rfl, hB1⟩
  have HB1 := Lib.hid hB1; clear hB1
  go_wp2_with fail
  refine (new_bad r e _ HX.out).mono ?_
  rintro e' w2 ⟨rfl, rfl⟩
  go_wp2_with fail
  refine (rnew_bad r e _ HX.out).mono ?_
  rintro e' w2 ⟨rfl, rfl⟩
  go_wp2
  go_ret
  exact ⟨rfl, HB1.out⟩
set_option maxHeartbeats 1000000 in
theorem plays_long (r e : Nat) (a0 : Option Addr) (n c : Nat) (w : World) (hT : Tables w) (hn : 50 < n) (he : e < 256) (h1 : 8 ≤ r) (h2 : r ≤ 192) (h3 : r % 8 = 0) :
    Calls Tryd.prog 4 #[.int .i64 r, .int .u8 e, .slice a0 n c] w fun e w' => e = .returned (.bool true) ∧ Below w.heap.size w w' := by
  have H3 := Lib.hid h3; clear h3
  have hgt : 50 < (n : Int) := by omega
  have ht3 := hT.lt
  have HT := Lib.hid hT; clear hT
  go_enter Tryd.func4, Tryd.ntmps4
  go_wp2_with fail
  refine (head_any _ HT.out).mono ?_
  rintro e' w1 ⟨rfl, hB1⟩
  have HB1 := Lib.hid hB1; clear hB1
  go_wp2_with fail
  refine (new_any r e _ h1 h2 H3.out).mono ?_
  rintro e' w2 ⟨rfl, hS, hB, hz⟩
  have hs1 := HB1.out.size
  have HP2 : Hid (PSt w2 w1.heap.size r e (false, start)) := Lib.hid hS
  have HB2 := Lib.hid (HB1.out.trans (hB.mono hs1))
  have hz2 : w2.heap.size = w1.heap.size + 1 := hz
  clear hS hB hz
  go_wp2_with fail
  refine (rnew_any r e _ h1 h2 H3.out).mono ?_
  rintro e' w3 ⟨rfl, hS, hB, hz⟩
  have HR3 : Hid (RSt w3 w2.heap.size r e (false, start)) := Lib.hid hS
  have HP3 := Lib.hid (HP2.out.of_block (hB.block w1.heap.size (by omega)))
  have HB3 := Lib.hid (HB2.out.trans (hB.mono HB2.out.size))
  have HG3 : Hid (Good r start) := Lib.hid (good_start (by omega))
  clear hS hB hz HP2 HB2 HB1
  go_wp2
  go_ret
  exact ⟨rfl, HB3.out⟩
set_option maxHeartbeats 8000000 in
set_option maxRecDepth 100000 in
theorem plays_walk (r e : Nat) (a0 : Option Addr) (n c : Nat) (w : World) (hT : Tables w) (hI : IsOps w a0 n c) (hn : n ≤ 50) (he : e < 256) (h1 : 8 ≤ r) (h2 : r ≤ 192) (h3 : r % 8 = 0) :
    Calls Tryd.prog 4 #[.int .i64 r, .int .u8 e, .slice a0 n c] w fun e w' => e = .returned (.bool true) ∧ Below w.heap.size w w' := by
  have HI := Lib.hid hI; have H3 := Lib.hid h3; clear hI h3
  have hgt : ¬ (50 < (n : Int)) := by omega
  have ht3 := hT.lt
  have HT := Lib.hid hT; clear hT
  go_enter Tryd.func4, Tryd.ntmps4
  go_wp2_with fail
  refine (head_any _ HT.out).mono ?_
  rintro e' w1 ⟨rfl, hB1⟩
  have HB1 := Lib.hid hB1; clear hB1
  go_wp2_with fail
  refine (new_any r e _ h1 h2 H3.out).mono ?_
  rintro e' w2 ⟨rfl, hS, hB, hz⟩
  have hs1 := HB1.out.size
  have HP2 : Hid (PSt w2 w1.heap.size r e (false, start)) := Lib.hid hS
  have HB2 := Lib.hid (HB1.out.trans (hB.mono hs1))
  have hz2 : w2.heap.size = w1.heap.size + 1 := hz
  clear hS hB hz
  go_wp2_with fail
  refine (rnew_any r e _ h1 h2 H3.out).mono ?_
  rintro e' w3 ⟨rfl, hS, hB, hz⟩
  have HR3 : Hid (RSt w3 w2.heap.size r e (false, start)) := Lib.hid hS
  have HP3 := Lib.hid (HP2.out.of_block (hB.block w1.heap.size (by omega)))
  have HB3 := Lib.hid (HB2.out.trans (hB.mono HB2.out.size))
  have HG3 : Hid (Good r start) := Lib.hid (good_start (by omega))
  clear hS hB hz HP2 HB2 HB1
  obtain ⟨g, hg⟩ : ∃ g, w1.heap.size = g := ⟨_, rfl⟩
  obtain ⟨g', hg'⟩ : ∃ g, w2.heap.size = g := ⟨_, rfl⟩
  rw [hg] at HP3 hs1 hz2; rw [hg'] at HR3 hz2
  rw [hg', hg]
  have hne : g' ≠ g := by omega
  have hwg : w.heap.size ≤ g := by omega
  have hwg' : w.heap.size ≤ g' := by omega
  have h3g : 3 ≤ g := by omega
  have h3g' : 3 ≤ g' := by omega
  have hr0 : 0 < r := by omega
  clear hg hg' hs1 hz2
  go_wp2
  go_loopw [10] (fun i W => ∃ (k : Nat) (gs : Bool × (Nat × List Nat)), k ≤ n ∧ i = .int .i64 k ∧ Hid (PSt W g r e gs) ∧ Hid (RSt W g' r e gs) ∧ Hid (Good r gs.2) ∧ Hid (Below w.heap.size w W)) (fun i _ => n - (intOf i).toNat)
  case atStart => exact ⟨0, (false, start), by omega, rfl, HP3, HR3, HG3, HB3⟩
  case round =>
    clear HP3 HR3 HG3 HB3
    obtain ⟨k, gs, hk, rfl, HP, HR, HG, HB⟩ := hrel
    by_cases hkn : k < n
    · have yk : (k : Int) < (n : Int) := by omega
      rcases HI.out with ⟨_, h0, _⟩ | ⟨ad, Wh, Nn, A, L, C, Z, rfl, hnc, hcm, hrows⟩
      · omega
      obtain ⟨hc0, hc1, hrow, hc2⟩ := hrows k (by omega)
      obtain ⟨r0, n0, m0⟩ := rd_of_row hrow
      have b0 := block_lt_of_cell hc0; have b1 := block_lt_of_cell hc1; have b2 := block_lt_of_cell hc2
      have e1 := add_lit ad (k * 3)
      have e2 := add_lit2 ad (k * 3)
      rw [e1] at hc1 b1; rw [e2] at hc2 b2
      clear e1 e2
      generalize hbs : bytesOf (Z k) (L k) = bs at *
      have HRD := Lib.hid r0; have HLN := Lib.hid (fun _ : Unit => n0)
      clear r0 n0 hbs hrow hrows HI
      generalize A k = A0 at *
      generalize L k = m at *
      generalize C k = cm at *
      generalize Wh k = wh at *
      generalize Nn k = x at *
      have HC0 := Lib.hid hc0; have HC1 := Lib.hid hc1; have HC2 := Lib.hid hc2
      have c0 : wr.cell? (ad.add (k * 3)) = some (.int .i64 wh) := by rw [HB.out.cell b0]; exact hc0
      have c1 : wr.cell? ⟨(ad.add (k * 3)).block, (ad.add (k * 3)).off + 1, none⟩ = some (.slice A0 m cm) := by rw [HB.out.cell b1]; exact hc1
      have c2 : wr.cell? ⟨(ad.add (k * 3)).block, (ad.add (k * 3)).off + 2, none⟩ = some (.int .i64 x) := by rw [HB.out.cell b2]; exact hc2
      clear hc0 hc1 hc2
      by_cases hbig : 5000 < m
      · go_wp2_with fail
        refine (great_yes _ _ _ _ hbig).mono ?_
        rintro e' w4 ⟨rfl, rfl⟩
        go_wp2
        go_ret
        exact ⟨rfl, HB.out⟩
      have hsm : m ≤ 5000 := by omega
      by_cases hmid : 1000 < x ∧ x ≤ 65536
      · obtain ⟨z1, z2⟩ := hmid
        go_wp2_with fail
        refine (great_no _ _ _ _ hsm).mono ?_
        rintro e' w4 ⟨rfl, rfl⟩
        go_wp2
        go_ret
        exact ⟨rfl, HB.out⟩
      have hxx : (1000 < x ∧ ¬ x ≤ 65536) ∨ ¬ 1000 < x := by omega
      clear hmid hbig
      have hpar : bits .and .i64 wh 1 = 0 ∨ bits .and .i64 wh 1 = 1 := by rw [i64_and1]; omega
      rcases hxx with ⟨z3, z4⟩ | z3
      · skip
        go_wp2_with fail
        refine (great_no _ _ _ _ hsm).mono ?_
        rintro e' w4 ⟨rfl, rfl⟩
        rcases hpar with hbit | hbit
        · go_wp2_with fail
          refine (pwrite_all g r e w.heap.size gs A0 bs m cm wr HP.out HG.out h2 (HT.out.below HB.out ht3) h3g (HRD.out.below HB.out) hwg (HLN.out ()) (by omega)).mono ?_
          rintro e' w5 ⟨rfl, hS, hG⟩
          have HP5 := Lib.hid hS; have HR5 := Lib.hid (HR.out.grown hG hne); have HB5 := Lib.hid (below_of_only HB.out hG hwg)
          have c15 : w5.cell? ⟨(ad.add (k * 3)).block, (ad.add (k * 3)).off + 1, none⟩ = some (.slice A0 m cm) := (HB5.out.cell (p := ⟨(ad.add (k * 3)).block, (ad.add (k * 3)).off + 1, none⟩) b0).trans HC1.out
          clear hS hG c0 c1 c2
          go_wp2_with fail
          refine (rwrite_all g' r e w.heap.size gs A0 bs m cm w5 HR5.out HG.out h2 h3g' (HRD.out.below HB5.out) hwg' (HLN.out ()) (by omega)).mono ?_
          rintro e' w6 ⟨rfl, hS, hG⟩
          have HR6 := Lib.hid hS; have HP6 := Lib.hid (HP5.out.grown hG (fun e => hne e.symm)); have HB6 := Lib.hid (below_of_only HB5.out hG hwg')
          have HG6 := Lib.hid (good_wrS HG.out h2 bs)
          clear hS hG c15
          go_wp2
          go_roundw
          case rel => exact ⟨k + 1, wrS r gs bs, by omega, by go_num, HP6, HR6, HG6, HB6⟩
          case measure => simp [intOf]; omega
        · have HX := Lib.hid (fun _ : Unit => HC2.out)
          obtain ⟨D, hD⟩ : ∃ D, rdB r e gs x = D := ⟨_, rfl⟩
          have HDD := Lib.hid (fun _ : Unit => hD); clear hD
          go_wp2_with fail
          refine region_calm ?_
          refine wp_region_any (by kernel_rfl) ?_
          change wpAny _ _ _ _ _ _ _ (World.drew _)
          replace HP := Lib.hid HP.out.drew; replace HR := Lib.hid HR.out.drew; replace HB := Lib.hid HB.out.drew
          clear c0 c1 c2
          generalize World.drew _ = wd at *
          have HPC : ∀ w', Below w.heap.size w w' → w'.cell? ⟨(ad.add (k * 3)).block, (ad.add (k * 3)).off + 2, none⟩ = some (.int .i64 x) := fun w' hb => (hb.cell (p := ⟨(ad.add (k * 3)).block, (ad.add (k * 3)).off + 2, none⟩) b0).trans (HX.out ())
          replace HPC := Lib.hid HPC
          refine wpAny_of_held (S := fun w' => w'.cell? ⟨(ad.add (k * 3)).block, (ad.add (k * 3)).off + 2, none⟩ = some (.int .i64 x)) _ _ _ _ ?_
          refine wpAnyH_take (i := 0) (v := ?v0n1) rfl (by kernel_rfl) (by kernel_rfl) (by kernel_rfl) (fun _ _ _ h => h) (Or.inl ⟨by rfl, ?y0n1⟩) (HPC.out _ HB.out) ?r0n1
          case y0n1 => (intro w' hSw; clear hSw; go_simp; try with_reducible rfl)
          simp only [List.getElem_toArray, List.getElem_cons_succ, List.getElem_cons_zero, Act.put, List.setIfInBounds_toArray, List.set_cons_zero, List.set_cons_succ]
          refine wpAnyH_take (i := 1) (v := ?v1n2) rfl (by kernel_rfl) (by kernel_rfl) (by kernel_rfl) (fun _ _ _ h => h) (Or.inl ⟨by rfl, ?y1n2⟩) (HPC.out _ HB.out) ?r1n2
          case y1n2 => (intro w' hSw; clear hSw; go_simp; try with_reducible rfl)
          simp only [List.getElem_toArray, List.getElem_cons_succ, List.getElem_cons_zero, Act.put, List.setIfInBounds_toArray, List.set_cons_zero, List.set_cons_succ]
          refine wpAnyH_take (i := 2) (v := ?v2n3) rfl (by kernel_rfl) (by kernel_rfl) (by kernel_rfl) (fun _ _ _ h => h) (Or.inl ⟨by rfl, ?y2n3⟩) (HPC.out _ HB.out) ?r2n3
          case y2n3 => (intro w' hSw; clear hSw; go_simp; try with_reducible rfl)
          simp only [List.getElem_toArray, List.getElem_cons_succ, List.getElem_cons_zero, Act.put, List.setIfInBounds_toArray, List.set_cons_zero, List.set_cons_succ]
          refine wpAnyH_take (i := 3) (v := ?v3n4) rfl (by kernel_rfl) (by kernel_rfl) (by kernel_rfl) (fun _ _ _ h => h) (Or.inl ⟨by rfl, ?y3n4⟩) (HPC.out _ HB.out) ?r3n4
          case y3n4 => (intro w' hSw; clear hSw; go_simp; try with_reducible rfl)
          simp only [List.getElem_toArray, List.getElem_cons_succ, List.getElem_cons_zero, Act.put, List.setIfInBounds_toArray, List.set_cons_zero, List.set_cons_succ]
          refine wpAnyH_take (i := 4) (v := ?v4n5) rfl (by kernel_rfl) (by kernel_rfl) (by kernel_rfl) (fun _ _ _ h => h) (Or.inl ⟨by rfl, ?y4n5⟩) (HPC.out _ HB.out) ?r4n5
          case y4n5 => (intro w' hSw; clear hSw; go_simp; try with_reducible rfl)
          simp only [List.getElem_toArray, List.getElem_cons_succ, List.getElem_cons_zero, Act.put, List.setIfInBounds_toArray, List.set_cons_zero, List.set_cons_succ]
          refine wpAnyH_take (i := 5) (v := ?v5n6) rfl (by kernel_rfl) (by kernel_rfl) (by kernel_rfl) (fun _ _ _ h => h) (Or.inl ⟨by rfl, ?y5n6⟩) (HPC.out _ HB.out) ?r5n6
          case y5n6 => (intro w' hSw; have s1 := hSw; (try dsimp only at s1); clear hSw; go_simp; try with_reducible rfl)
          simp only [List.getElem_toArray, List.getElem_cons_succ, List.getElem_cons_zero, Act.put, List.setIfInBounds_toArray, List.set_cons_zero, List.set_cons_succ]
          refine wpAnyH_take (i := 8) (v := ?v8n7) rfl (by kernel_rfl) (by kernel_rfl) (by kernel_rfl) (fun _ _ _ h => h) (Or.inl ⟨by rfl, ?y8n7⟩) (HPC.out _ HB.out) ?r8n7
          case y8n7 => (intro w' hSw; clear hSw; go_simp; try with_reducible rfl)
          simp only [List.getElem_toArray, List.getElem_cons_succ, List.getElem_cons_zero, Act.put, List.setIfInBounds_toArray, List.set_cons_zero, List.set_cons_succ]
          refine wpAnyH_take (i := 9) (v := ?v9n8) rfl (by kernel_rfl) (by kernel_rfl) (by kernel_rfl) (fun _ _ _ h => h) (Or.inl ⟨by rfl, ?y9n8⟩) (HPC.out _ HB.out) ?r9n8
          case y9n8 => (intro w' hSw; clear hSw; go_simp; try with_reducible rfl)
          simp only [List.getElem_toArray, List.getElem_cons_succ, List.getElem_cons_zero, Act.put, List.setIfInBounds_toArray, List.set_cons_zero, List.set_cons_succ]
          refine wpAnyH_take (i := 10) (v := ?v10n9) rfl (by kernel_rfl) (by kernel_rfl) (by kernel_rfl) (fun _ _ _ h => h) (Or.inl ⟨by rfl, ?y10n9⟩) (HPC.out _ HB.out) ?r10n9
          case y10n9 => (intro w' hSw; clear hSw; go_simp; try with_reducible rfl)
          simp only [List.getElem_toArray, List.getElem_cons_succ, List.getElem_cons_zero, Act.put, List.setIfInBounds_toArray, List.set_cons_zero, List.set_cons_succ]
          refine wpAnyH_take (i := 11) (v := ?v11n10) rfl (by kernel_rfl) (by kernel_rfl) (by kernel_rfl) (fun _ _ _ h => h) (Or.inl ⟨by rfl, ?y11n10⟩) (HPC.out _ HB.out) ?r11n10
          case y11n10 => (intro w' hSw; clear hSw; go_simp; try with_reducible rfl)
          simp only [List.getElem_toArray, List.getElem_cons_succ, List.getElem_cons_zero, Act.put, List.setIfInBounds_toArray, List.set_cons_zero, List.set_cons_succ]
          refine wpAnyH_take (i := 12) (v := ?v12n11) rfl (by kernel_rfl) (by kernel_rfl) (by kernel_rfl) (fun _ _ _ h => h) (Or.inl ⟨by rfl, ?y12n11⟩) (HPC.out _ HB.out) ?r12n11
          case y12n11 => (intro w' hSw; clear hSw; go_simp; try with_reducible rfl)
          simp only [List.getElem_toArray, List.getElem_cons_succ, List.getElem_cons_zero, Act.put, List.setIfInBounds_toArray, List.set_cons_zero, List.set_cons_succ]
          refine wpAnyH_take (i := 13) (v := ?v13n12) rfl (by kernel_rfl) (by kernel_rfl) (by kernel_rfl) (fun _ _ _ h => h) (Or.inl ⟨by rfl, ?y13n12⟩) (HPC.out _ HB.out) ?r13n12
          case y13n12 => (intro w' hSw; have s1 := hSw; (try dsimp only at s1); clear hSw; go_simp; try with_reducible rfl)
          simp only [List.getElem_toArray, List.getElem_cons_succ, List.getElem_cons_zero, Act.put, List.setIfInBounds_toArray, List.set_cons_zero, List.set_cons_succ]
          refine wpAnyH_ready (rs := [6]) (by kernel_rfl) (by simp) ?_
          refine AllReadyH.cons rfl (fun K hK => ?_) AllReadyH.nil
          simp only [List.getElem_toArray, List.getElem_cons_succ, List.getElem_cons_zero]
          go_simp
          refine (pread_all g r e gs x wd HP.out HG.out hr0 h2 he (HT.out.below HB.out ht3) h3g).mono ?_
          rintro e' w5 ⟨v5, rfl, hh, hS, hG⟩
          rw [HDD.out ()] at hh
          have hsd := HB.out.size
          have HP5 := Lib.hid hS; have HR5 := Lib.hid (HR.out.grown hG hne); have HB5 := Lib.hid (below_of_only HB.out hG hwg); have HH5 := Lib.hid hh
          have hl5 : g' < wd.heap.size := HR.out.lt
          clear hS hG hh
          obtain ⟨A5, n5, c5, rfl, -⟩ := id HH5.out
          refine hK.out _ _ (HPC.out _ HB5.out) (fun _ => ?_)
          clear hK K
          try simp only [List.getElem_toArray, List.getElem_cons_succ, List.getElem_cons_zero, Act.put, List.setIfInBounds_toArray, List.set_cons_zero, List.set_cons_succ]
          refine wpAnyH_more (S' := fun w' => (convert 22 9 (.slice A5 n5 c5)).run Tryd.prog w' = .ok (.string (txt D)) w' ∧ w'.cell? ⟨(ad.add (k * 3)).block, (ad.add (k * 3)).off + 2, none⟩ = some (.int .i64 x)) (fun _ h => h.2) _ _ _ _ ?_
          refine wpAnyH_take (i := 7) (v := ?v7n13) rfl (by kernel_rfl) (by kernel_rfl) (by kernel_rfl) (fun _ _ _ h => h) (Or.inl ⟨by rfl, ?y7n13⟩) ⟨HH5.out.conv, HPC.out _ HB5.out⟩ ?r7n13
          case y7n13 => (intro w' hSw; have s1 := hSw.1; (try dsimp only at s1); clear hSw; go_simp; try with_reducible rfl)
          simp only [List.getElem_toArray, List.getElem_cons_succ, List.getElem_cons_zero, Act.put, List.setIfInBounds_toArray, List.set_cons_zero, List.set_cons_succ]
          refine wpAnyH_ready (rs := [14]) (by kernel_rfl) (by simp) ?_
          refine AllReadyH.cons rfl (fun K hK => ?_) AllReadyH.nil
          simp only [List.getElem_toArray, List.getElem_cons_succ, List.getElem_cons_zero]
          go_simp
          refine (rread_all g' r e gs x w5 HR5.out HG.out hr0 h2 he).mono ?_
          rintro e' w6 ⟨v6, rfl, hh, hS, hG⟩
          rw [HDD.out ()] at hh
          have HR6 := Lib.hid hS; have HP6 := Lib.hid (HP5.out.grown hG (fun e => hne e.symm)); have HB6 := Lib.hid (below_of_only HB5.out hG hwg'); have HH6 := Lib.hid hh
          have HH56 := Lib.hid (HH5.out.grown hG hl5)
          have HG6 := Lib.hid (good_rdS (e := e) HG.out hr0 h2 x)
          clear hS hG hh
          obtain ⟨A6, n6, c6, rfl, -⟩ := id HH6.out
          refine hK.out _ _ ⟨HH56.out.conv, HPC.out _ HB6.out⟩ (fun _ => ?_)
          clear hK K
          try simp only [List.getElem_toArray, List.getElem_cons_succ, List.getElem_cons_zero, Act.put, List.setIfInBounds_toArray, List.set_cons_zero, List.set_cons_succ]
          refine wpAnyH_more (S' := fun w' => (convert 22 9 (.slice A6 n6 c6)).run Tryd.prog w' = .ok (.string (txt D)) w' ∧ (convert 22 9 (.slice A5 n5 c5)).run Tryd.prog w' = .ok (.string (txt D)) w' ∧ w'.cell? ⟨(ad.add (k * 3)).block, (ad.add (k * 3)).off + 2, none⟩ = some (.int .i64 x)) (fun _ h => h.2) _ _ _ _ ?_
          refine wpAnyH_take (i := 15) (v := ?v15n14) rfl (by kernel_rfl) (by kernel_rfl) (by kernel_rfl) (fun _ _ _ h => h) (Or.inl ⟨by rfl, ?y15n14⟩) ⟨HH6.out.conv, HH56.out.conv, HPC.out _ HB6.out⟩ ?r15n14
          case y15n14 => (intro w' hSw; have s1 := hSw.1; (try dsimp only at s1); clear hSw; go_simp; try with_reducible rfl)
          simp only [List.getElem_toArray, List.getElem_cons_succ, List.getElem_cons_zero, Act.put, List.setIfInBounds_toArray, List.set_cons_zero, List.set_cons_succ]
          refine wpAnyH_take (i := 16) (v := ?v16n15) rfl (by kernel_rfl) (by kernel_rfl) (by kernel_rfl) (fun _ _ _ h => h) (Or.inl ⟨by rfl, ?y16n15⟩) ⟨HH6.out.conv, HH56.out.conv, HPC.out _ HB6.out⟩ ?r16n15
          case y16n15 => (intro w' hSw; clear hSw; go_simp; try with_reducible rfl)
          simp only [List.getElem_toArray, List.getElem_cons_succ, List.getElem_cons_zero, Act.put, List.setIfInBounds_toArray, List.set_cons_zero, List.set_cons_succ]
          refine wpAnyH_done (by kernel_rfl) ?_ _
          change Exit.then _ _ Exit.normal _ _
          go_wp2
          go_roundw
          case rel => exact ⟨k + 1, rdS r e gs x, by omega, by go_num, HP6, HR6, HG6, HB6⟩
          case measure => simp [intOf]; omega
      · skip
        go_wp2_with fail
        refine (great_no _ _ _ _ hsm).mono ?_
        rintro e' w4 ⟨rfl, rfl⟩
        rcases hpar with hbit | hbit
        · go_wp2_with fail
          refine (pwrite_all g r e w.heap.size gs A0 bs m cm wr HP.out HG.out h2 (HT.out.below HB.out ht3) h3g (HRD.out.below HB.out) hwg (HLN.out ()) (by omega)).mono ?_
          rintro e' w5 ⟨rfl, hS, hG⟩
          have HP5 := Lib.hid hS; have HR5 := Lib.hid (HR.out.grown hG hne); have HB5 := Lib.hid (below_of_only HB.out hG hwg)
          have c15 : w5.cell? ⟨(ad.add (k * 3)).block, (ad.add (k * 3)).off + 1, none⟩ = some (.slice A0 m cm) := (HB5.out.cell (p := ⟨(ad.add (k * 3)).block, (ad.add (k * 3)).off + 1, none⟩) b0).trans HC1.out
          clear hS hG c0 c1 c2
          go_wp2_with fail
          refine (rwrite_all g' r e w.heap.size gs A0 bs m cm w5 HR5.out HG.out h2 h3g' (HRD.out.below HB5.out) hwg' (HLN.out ()) (by omega)).mono ?_
          rintro e' w6 ⟨rfl, hS, hG⟩
          have HR6 := Lib.hid hS; have HP6 := Lib.hid (HP5.out.grown hG (fun e => hne e.symm)); have HB6 := Lib.hid (below_of_only HB5.out hG hwg')
          have HG6 := Lib.hid (good_wrS HG.out h2 bs)
          clear hS hG c15
          go_wp2
          go_roundw
          case rel => exact ⟨k + 1, wrS r gs bs, by omega, by go_num, HP6, HR6, HG6, HB6⟩
          case measure => simp [intOf]; omega
        · have HX := Lib.hid (fun _ : Unit => HC2.out)
          obtain ⟨D, hD⟩ : ∃ D, rdB r e gs x = D := ⟨_, rfl⟩
          have HDD := Lib.hid (fun _ : Unit => hD); clear hD
          go_wp2_with fail
          refine region_calm ?_
          refine wp_region_any (by kernel_rfl) ?_
          change wpAny _ _ _ _ _ _ _ (World.drew _)
          replace HP := Lib.hid HP.out.drew; replace HR := Lib.hid HR.out.drew; replace HB := Lib.hid HB.out.drew
          clear c0 c1 c2
          generalize World.drew _ = wd at *
          have HPC : ∀ w', Below w.heap.size w w' → w'.cell? ⟨(ad.add (k * 3)).block, (ad.add (k * 3)).off + 2, none⟩ = some (.int .i64 x) := fun w' hb => (hb.cell (p := ⟨(ad.add (k * 3)).block, (ad.add (k * 3)).off + 2, none⟩) b0).trans (HX.out ())
          replace HPC := Lib.hid HPC
          refine wpAny_of_held (S := fun w' => w'.cell? ⟨(ad.add (k * 3)).block, (ad.add (k * 3)).off + 2, none⟩ = some (.int .i64 x)) _ _ _ _ ?_
          refine wpAnyH_take (i := 0) (v := ?v0n16) rfl (by kernel_rfl) (by kernel_rfl) (by kernel_rfl) (fun _ _ _ h => h) (Or.inl ⟨by rfl, ?y0n16⟩) (HPC.out _ HB.out) ?r0n16
          case y0n16 => (intro w' hSw; clear hSw; go_simp; try with_reducible rfl)
          simp only [List.getElem_toArray, List.getElem_cons_succ, List.getElem_cons_zero, Act.put, List.setIfInBounds_toArray, List.set_cons_zero, List.set_cons_succ]
          refine wpAnyH_take (i := 1) (v := ?v1n17) rfl (by kernel_rfl) (by kernel_rfl) (by kernel_rfl) (fun _ _ _ h => h) (Or.inl ⟨by rfl, ?y1n17⟩) (HPC.out _ HB.out) ?r1n17
          case y1n17 => (intro w' hSw; clear hSw; go_simp; try with_reducible rfl)
          simp only [List.getElem_toArray, List.getElem_cons_succ, List.getElem_cons_zero, Act.put, List.setIfInBounds_toArray, List.set_cons_zero, List.set_cons_succ]
          refine wpAnyH_take (i := 2) (v := ?v2n18) rfl (by kernel_rfl) (by kernel_rfl) (by kernel_rfl) (fun _ _ _ h => h) (Or.inl ⟨by rfl, ?y2n18⟩) (HPC.out _ HB.out) ?r2n18
          case y2n18 => (intro w' hSw; clear hSw; go_simp; try with_reducible rfl)
          simp only [List.getElem_toArray, List.getElem_cons_succ, List.getElem_cons_zero, Act.put, List.setIfInBounds_toArray, List.set_cons_zero, List.set_cons_succ]
          refine wpAnyH_take (i := 3) (v := ?v3n19) rfl (by kernel_rfl) (by kernel_rfl) (by kernel_rfl) (fun _ _ _ h => h) (Or.inl ⟨by rfl, ?y3n19⟩) (HPC.out _ HB.out) ?r3n19
          case y3n19 => (intro w' hSw; clear hSw; go_simp; try with_reducible rfl)
          simp only [List.getElem_toArray, List.getElem_cons_succ, List.getElem_cons_zero, Act.put, List.setIfInBounds_toArray, List.set_cons_zero, List.set_cons_succ]
          refine wpAnyH_take (i := 4) (v := ?v4n20) rfl (by kernel_rfl) (by kernel_rfl) (by kernel_rfl) (fun _ _ _ h => h) (Or.inl ⟨by rfl, ?y4n20⟩) (HPC.out _ HB.out) ?r4n20
          case y4n20 => (intro w' hSw; clear hSw; go_simp; try with_reducible rfl)
          simp only [List.getElem_toArray, List.getElem_cons_succ, List.getElem_cons_zero, Act.put, List.setIfInBounds_toArray, List.set_cons_zero, List.set_cons_succ]
          refine wpAnyH_take (i := 5) (v := ?v5n21) rfl (by kernel_rfl) (by kernel_rfl) (by kernel_rfl) (fun _ _ _ h => h) (Or.inl ⟨by rfl, ?y5n21⟩) (HPC.out _ HB.out) ?r5n21
          case y5n21 => (intro w' hSw; have s1 := hSw; (try dsimp only at s1); clear hSw; go_simp; try with_reducible rfl)
          simp only [List.getElem_toArray, List.getElem_cons_succ, List.getElem_cons_zero, Act.put, List.setIfInBounds_toArray, List.set_cons_zero, List.set_cons_succ]
          refine wpAnyH_take (i := 8) (v := ?v8n22) rfl (by kernel_rfl) (by kernel_rfl) (by kernel_rfl) (fun _ _ _ h => h) (Or.inl ⟨by rfl, ?y8n22⟩) (HPC.out _ HB.out) ?r8n22
          case y8n22 => (intro w' hSw; clear hSw; go_simp; try with_reducible rfl)
          simp only [List.getElem_toArray, List.getElem_cons_succ, List.getElem_cons_zero, Act.put, List.setIfInBounds_toArray, List.set_cons_zero, List.set_cons_succ]
          refine wpAnyH_take (i := 9) (v := ?v9n23) rfl (by kernel_rfl) (by kernel_rfl) (by kernel_rfl) (fun _ _ _ h => h) (Or.inl ⟨by rfl, ?y9n23⟩) (HPC.out _ HB.out) ?r9n23
          case y9n23 => (intro w' hSw; clear hSw; go_simp; try with_reducible rfl)
          simp only [List.getElem_toArray, List.getElem_cons_succ, List.getElem_cons_zero, Act.put, List.setIfInBounds_toArray, List.set_cons_zero, List.set_cons_succ]
          refine wpAnyH_take (i := 10) (v := ?v10n24) rfl (by kernel_rfl) (by kernel_rfl) (by kernel_rfl) (fun _ _ _ h => h) (Or.inl ⟨by rfl, ?y10n24⟩) (HPC.out _ HB.out) ?r10n24
          case y10n24 => (intro w' hSw; clear hSw; go_simp; try with_reducible rfl)
          simp only [List.getElem_toArray, List.getElem_cons_succ, List.getElem_cons_zero, Act.put, List.setIfInBounds_toArray, List.set_cons_zero, List.set_cons_succ]
          refine wpAnyH_take (i := 11) (v := ?v11n25) rfl (by kernel_rfl) (by kernel_rfl) (by kernel_rfl) (fun _ _ _ h => h) (Or.inl ⟨by rfl, ?y11n25⟩) (HPC.out _ HB.out) ?r11n25
          case y11n25 => (intro w' hSw; clear hSw; go_simp; try with_reducible rfl)
          simp only [List.getElem_toArray, List.getElem_cons_succ, List.getElem_cons_zero, Act.put, List.setIfInBounds_toArray, List.set_cons_zero, List.set_cons_succ]
          refine wpAnyH_take (i := 12) (v := ?v12n26) rfl (by kernel_rfl) (by kernel_rfl) (by kernel_rfl) (fun _ _ _ h => h) (Or.inl ⟨by rfl, ?y12n26⟩) (HPC.out _ HB.out) ?r12n26
          case y12n26 => (intro w' hSw; clear hSw; go_simp; try with_reducible rfl)
          simp only [List.getElem_toArray, List.getElem_cons_succ, List.getElem_cons_zero, Act.put, List.setIfInBounds_toArray, List.set_cons_zero, List.set_cons_succ]
          refine wpAnyH_take (i := 13) (v := ?v13n27) rfl (by kernel_rfl) (by kernel_rfl) (by kernel_rfl) (fun _ _ _ h => h) (Or.inl ⟨by rfl, ?y13n27⟩) (HPC.out _ HB.out) ?r13n27
          case y13n27 => (intro w' hSw; have s1 := hSw; (try dsimp only at s1); clear hSw; go_simp; try with_reducible rfl)
          simp only [List.getElem_toArray, List.getElem_cons_succ, List.getElem_cons_zero, Act.put, List.setIfInBounds_toArray, List.set_cons_zero, List.set_cons_succ]
          refine wpAnyH_ready (rs := [6]) (by kernel_rfl) (by simp) ?_
          refine AllReadyH.cons rfl (fun K hK => ?_) AllReadyH.nil
          simp only [List.getElem_toArray, List.getElem_cons_succ, List.getElem_cons_zero]
          go_simp
          refine (pread_all g r e gs x wd HP.out HG.out hr0 h2 he (HT.out.below HB.out ht3) h3g).mono ?_
          rintro e' w5 ⟨v5, rfl, hh, hS, hG⟩
          rw [HDD.out ()] at hh
          have hsd := HB.out.size
          have HP5 := Lib.hid hS; have HR5 := Lib.hid (HR.out.grown hG hne); have HB5 := Lib.hid (below_of_only HB.out hG hwg); have HH5 := Lib.hid hh
          have hl5 : g' < wd.heap.size := HR.out.lt
          clear hS hG hh
          obtain ⟨A5, n5, c5, rfl, -⟩ := id HH5.out
          refine hK.out _ _ (HPC.out _ HB5.out) (fun _ => ?_)
          clear hK K
          try simp only [List.getElem_toArray, List.getElem_cons_succ, List.getElem_cons_zero, Act.put, List.setIfInBounds_toArray, List.set_cons_zero, List.set_cons_succ]
          refine wpAnyH_more (S' := fun w' => (convert 22 9 (.slice A5 n5 c5)).run Tryd.prog w' = .ok (.string (txt D)) w' ∧ w'.cell? ⟨(ad.add (k * 3)).block, (ad.add (k * 3)).off + 2, none⟩ = some (.int .i64 x)) (fun _ h => h.2) _ _ _ _ ?_
          refine wpAnyH_take (i := 7) (v := ?v7n28) rfl (by kernel_rfl) (by kernel_rfl) (by kernel_rfl) (fun _ _ _ h => h) (Or.inl ⟨by rfl, ?y7n28⟩) ⟨HH5.out.conv, HPC.out _ HB5.out⟩ ?r7n28
          case y7n28 => (intro w' hSw; have s1 := hSw.1; (try dsimp only at s1); clear hSw; go_simp; try with_reducible rfl)
          simp only [List.getElem_toArray, List.getElem_cons_succ, List.getElem_cons_zero, Act.put, List.setIfInBounds_toArray, List.set_cons_zero, List.set_cons_succ]
          refine wpAnyH_ready (rs := [14]) (by kernel_rfl) (by simp) ?_
          refine AllReadyH.cons rfl (fun K hK => ?_) AllReadyH.nil
          simp only [List.getElem_toArray, List.getElem_cons_succ, List.getElem_cons_zero]
          go_simp
          refine (rread_all g' r e gs x w5 HR5.out HG.out hr0 h2 he).mono ?_
          rintro e' w6 ⟨v6, rfl, hh, hS, hG⟩
          rw [HDD.out ()] at hh
          have HR6 := Lib.hid hS; have HP6 := Lib.hid (HP5.out.grown hG (fun e => hne e.symm)); have HB6 := Lib.hid (below_of_only HB5.out hG hwg'); have HH6 := Lib.hid hh
          have HH56 := Lib.hid (HH5.out.grown hG hl5)
          have HG6 := Lib.hid (good_rdS (e := e) HG.out hr0 h2 x)
          clear hS hG hh
          obtain ⟨A6, n6, c6, rfl, -⟩ := id HH6.out
          refine hK.out _ _ ⟨HH56.out.conv, HPC.out _ HB6.out⟩ (fun _ => ?_)
          clear hK K
          try simp only [List.getElem_toArray, List.getElem_cons_succ, List.getElem_cons_zero, Act.put, List.setIfInBounds_toArray, List.set_cons_zero, List.set_cons_succ]
          refine wpAnyH_more (S' := fun w' => (convert 22 9 (.slice A6 n6 c6)).run Tryd.prog w' = .ok (.string (txt D)) w' ∧ (convert 22 9 (.slice A5 n5 c5)).run Tryd.prog w' = .ok (.string (txt D)) w' ∧ w'.cell? ⟨(ad.add (k * 3)).block, (ad.add (k * 3)).off + 2, none⟩ = some (.int .i64 x)) (fun _ h => h.2) _ _ _ _ ?_
          refine wpAnyH_take (i := 15) (v := ?v15n29) rfl (by kernel_rfl) (by kernel_rfl) (by kernel_rfl) (fun _ _ _ h => h) (Or.inl ⟨by rfl, ?y15n29⟩) ⟨HH6.out.conv, HH56.out.conv, HPC.out _ HB6.out⟩ ?r15n29
          case y15n29 => (intro w' hSw; have s1 := hSw.1; (try dsimp only at s1); clear hSw; go_simp; try with_reducible rfl)
          simp only [List.getElem_toArray, List.getElem_cons_succ, List.getElem_cons_zero, Act.put, List.setIfInBounds_toArray, List.set_cons_zero, List.set_cons_succ]
          refine wpAnyH_take (i := 16) (v := ?v16n30) rfl (by kernel_rfl) (by kernel_rfl) (by kernel_rfl) (fun _ _ _ h => h) (Or.inl ⟨by rfl, ?y16n30⟩) ⟨HH6.out.conv, HH56.out.conv, HPC.out _ HB6.out⟩ ?r16n30
          case y16n30 => (intro w' hSw; clear hSw; go_simp; try with_reducible rfl)
          simp only [List.getElem_toArray, List.getElem_cons_succ, List.getElem_cons_zero, Act.put, List.setIfInBounds_toArray, List.set_cons_zero, List.set_cons_succ]
          refine wpAnyH_done (by kernel_rfl) ?_ _
          change Exit.then _ _ Exit.normal _ _
          go_wp2
          go_roundw
          case rel => exact ⟨k + 1, rdS r e gs x, by omega, by go_num, HP6, HR6, HG6, HB6⟩
          case measure => simp [intOf]; omega
    · have yk : ¬ (k : Int) < (n : Int) := by omega
      obtain ⟨D, hD⟩ : ∃ D, rdB r e gs 8 = D := ⟨_, rfl⟩
      have HDD := Lib.hid (fun _ : Unit => hD); clear hD
      go_wp2_with fail
      refine region_calm ?_
      refine wp_region_any (by kernel_rfl) ?_
      change wpAny _ _ _ _ _ _ _ (World.drew _)
      replace HP := Lib.hid HP.out.drew; replace HR := Lib.hid HR.out.drew; replace HB := Lib.hid HB.out.drew
      generalize World.drew _ = wd at *
      refine wpAny_of_held (S := fun _ => True) _ _ _ _ ?_
      refine wpAnyH_take (i := 0) (v := ?v0n31) rfl (by kernel_rfl) (by kernel_rfl) (by kernel_rfl) (fun _ _ _ h => h) (Or.inl ⟨by rfl, ?y0n31⟩) trivial ?r0n31
      case y0n31 => (intro w' hSw; clear hSw; go_simp; try with_reducible rfl)
      simp only [List.getElem_toArray, List.getElem_cons_succ, List.getElem_cons_zero, Act.put, List.setIfInBounds_toArray, List.set_cons_zero, List.set_cons_succ]
      refine wpAnyH_take (i := 1) (v := ?v1n32) rfl (by kernel_rfl) (by kernel_rfl) (by kernel_rfl) (fun _ _ _ h => h) (Or.inl ⟨by rfl, ?y1n32⟩) trivial ?r1n32
      case y1n32 => (intro w' hSw; clear hSw; go_simp; try with_reducible rfl)
      simp only [List.getElem_toArray, List.getElem_cons_succ, List.getElem_cons_zero, Act.put, List.setIfInBounds_toArray, List.set_cons_zero, List.set_cons_succ]
      refine wpAnyH_take (i := 2) (v := ?v2n33) rfl (by kernel_rfl) (by kernel_rfl) (by kernel_rfl) (fun _ _ _ h => h) (Or.inl ⟨by rfl, ?y2n33⟩) trivial ?r2n33
      case y2n33 => (intro w' hSw; clear hSw; go_simp; try with_reducible rfl)
      simp only [List.getElem_toArray, List.getElem_cons_succ, List.getElem_cons_zero, Act.put, List.setIfInBounds_toArray, List.set_cons_zero, List.set_cons_succ]
      refine wpAnyH_take (i := 5) (v := ?v5n34) rfl (by kernel_rfl) (by kernel_rfl) (by kernel_rfl) (fun _ _ _ h => h) (Or.inl ⟨by rfl, ?y5n34⟩) trivial ?r5n34
      case y5n34 => (intro w' hSw; clear hSw; go_simp; try with_reducible rfl)
      simp only [List.getElem_toArray, List.getElem_cons_succ, List.getElem_cons_zero, Act.put, List.setIfInBounds_toArray, List.set_cons_zero, List.set_cons_succ]
      refine wpAnyH_ready (rs := [3]) (by kernel_rfl) (by simp) ?_
      refine AllReadyH.cons rfl (fun K hK => ?_) AllReadyH.nil
      simp only [List.getElem_toArray, List.getElem_cons_succ, List.getElem_cons_zero]
      go_simp
      refine (pread_all g r e gs 8 wd HP.out HG.out hr0 h2 he (HT.out.below HB.out ht3) h3g).mono ?_
      rintro e' w5 ⟨v5, rfl, hh, hS, hG⟩
      rw [HDD.out ()] at hh
      have hsd := HB.out.size
      have HP5 := Lib.hid hS; have HR5 := Lib.hid (HR.out.grown hG hne); have HB5 := Lib.hid (below_of_only HB.out hG hwg); have HH5 := Lib.hid hh
      have hl5 : g' < wd.heap.size := HR.out.lt
      clear hS hG hh
      obtain ⟨A5, n5, c5, rfl, -⟩ := id HH5.out
      refine hK.out _ _ trivial (fun _ => ?_)
      clear hK K
      try simp only [List.getElem_toArray, List.getElem_cons_succ, List.getElem_cons_zero, Act.put, List.setIfInBounds_toArray, List.set_cons_zero, List.set_cons_succ]
      refine wpAnyH_more (S' := fun w' => (convert 22 9 (.slice A5 n5 c5)).run Tryd.prog w' = .ok (.string (txt D)) w') (fun _ _ => trivial) _ _ _ _ ?_
      refine wpAnyH_take (i := 4) (v := ?v4n35) rfl (by kernel_rfl) (by kernel_rfl) (by kernel_rfl) (fun _ _ _ h => h) (Or.inl ⟨by rfl, ?y4n35⟩) HH5.out.conv ?r4n35
      case y4n35 => (intro w' hSw; have s1 := hSw; (try dsimp only at s1); clear hSw; go_simp; try with_reducible rfl)
      simp only [List.getElem_toArray, List.getElem_cons_succ, List.getElem_cons_zero, Act.put, List.setIfInBounds_toArray, List.set_cons_zero, List.set_cons_succ]
      refine wpAnyH_ready (rs := [6]) (by kernel_rfl) (by simp) ?_
      refine AllReadyH.cons rfl (fun K hK => ?_) AllReadyH.nil
      simp only [List.getElem_toArray, List.getElem_cons_succ, List.getElem_cons_zero]
      go_simp
      refine (rread_all g' r e gs 8 w5 HR5.out HG.out hr0 h2 he).mono ?_
      rintro e' w6 ⟨v6, rfl, hh, hS, hG⟩
      rw [HDD.out ()] at hh
      have HB6 := Lib.hid (below_of_only HB5.out hG hwg'); have HH6 := Lib.hid hh
      have HH56 := Lib.hid (HH5.out.grown hG hl5)
      clear hS hG hh
      obtain ⟨A6, n6, c6, rfl, -⟩ := id HH6.out
      refine hK.out _ _ HH56.out.conv (fun _ => ?_)
      clear hK K
      try simp only [List.getElem_toArray, List.getElem_cons_succ, List.getElem_cons_zero, Act.put, List.setIfInBounds_toArray, List.set_cons_zero, List.set_cons_succ]
      refine wpAnyH_more (S' := fun w' => (convert 22 9 (.slice A6 n6 c6)).run Tryd.prog w' = .ok (.string (txt D)) w' ∧ (convert 22 9 (.slice A5 n5 c5)).run Tryd.prog w' = .ok (.string (txt D)) w') (fun _ h => h.2) _ _ _ _ ?_
      refine wpAnyH_take (i := 7) (v := ?v7n36) rfl (by kernel_rfl) (by kernel_rfl) (by kernel_rfl) (fun _ _ _ h => h) (Or.inl ⟨by rfl, ?y7n36⟩) ⟨HH6.out.conv, HH56.out.conv⟩ ?r7n36
      case y7n36 => (intro w' hSw; have s1 := hSw.1; (try dsimp only at s1); clear hSw; go_simp; try with_reducible rfl)
      simp only [List.getElem_toArray, List.getElem_cons_succ, List.getElem_cons_zero, Act.put, List.setIfInBounds_toArray, List.set_cons_zero, List.set_cons_succ]
      refine wpAnyH_take (i := 8) (v := ?v8n37) rfl (by kernel_rfl) (by kernel_rfl) (by kernel_rfl) (fun _ _ _ h => h) (Or.inl ⟨by rfl, ?y8n37⟩) ⟨HH6.out.conv, HH56.out.conv⟩ ?r8n37
      case y8n37 => (intro w' hSw; clear hSw; go_simp; try with_reducible rfl)
      simp only [List.getElem_toArray, List.getElem_cons_succ, List.getElem_cons_zero, Act.put, List.setIfInBounds_toArray, List.set_cons_zero, List.set_cons_succ]
      refine wpAnyH_take (i := 9) (v := ?v9n38) rfl (by kernel_rfl) (by kernel_rfl) (by kernel_rfl) (fun _ _ _ h => h) (Or.inl ⟨by rfl, ?y9n38⟩) ⟨HH6.out.conv, HH56.out.conv⟩ ?r9n38
      case y9n38 => (intro w' hSw; clear hSw; go_simp; try with_reducible rfl)
      simp only [List.getElem_toArray, List.getElem_cons_succ, List.getElem_cons_zero, Act.put, List.setIfInBounds_toArray, List.set_cons_zero, List.set_cons_succ]
      refine wpAnyH_take (i := 10) (v := ?v10n39) rfl (by kernel_rfl) (by kernel_rfl) (by kernel_rfl) (fun _ _ _ h => h) (Or.inl ⟨by rfl, ?y10n39⟩) ⟨HH6.out.conv, HH56.out.conv⟩ ?r10n39
      case y10n39 => (intro w' hSw; clear hSw; go_simp; try with_reducible rfl)
      simp only [List.getElem_toArray, List.getElem_cons_succ, List.getElem_cons_zero, Act.put, List.setIfInBounds_toArray, List.set_cons_zero, List.set_cons_succ]
      refine wpAnyH_done (by kernel_rfl) ?_ _
      change Exit.then _ _ Exit.normal _ _
      go_wp2
      go_ret
      exact ⟨rfl, HB6.out⟩

theorem keccakPlays_walk (r : Int) (e : Int) (a : Option Addr) (len cap : Nat) (W : World) (hT : Tables W) (he : (Lit.int .u8 e).wf = true) (hI : IsOps W a len cap) :
    Calls Tryd.prog 4 #[.int .i64 r, .int .u8 e, .slice a len cap] W fun e w' => e = .returned (.bool true) ∧ Below W.heap.size W w' := by
  obtain ⟨k, rfl, hk⟩ := byte_of_wf he
  by_cases h : r < 8 ∨ 192 < r ∨ r % 8 ≠ 0
  · exact plays_bad r k a len cap W hT h
  · obtain ⟨q, rfl⟩ : ∃ q : Nat, r = q := ⟨r.toNat, by omega⟩
    by_cases hn : 50 < len
    · exact plays_long q k a len cap W hT hn hk (by omega) (by omega) (by omega)
    · exact plays_walk q k a len cap W hT hI (by omega) hk (by omega) (by omega) (by omega)
end Go.Proofs.YtocjdklieljelaaDoor.Kec
