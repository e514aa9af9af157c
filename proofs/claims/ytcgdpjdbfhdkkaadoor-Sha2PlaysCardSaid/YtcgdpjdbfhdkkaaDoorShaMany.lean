/- Walks: Sha2Many. -/
import Derived.Test.YtcgdpjdbfhdkkaaDoorShaParts
namespace Go.Proofs.YtcgdpjdbfhdkkaaDoor.Sha
open Go.RowKit
attribute [local go_sem ↓] Go.wp_at_zero Go.wp_at_succ

theorem slice_one (ad : Addr) (n c k c2 : Nat) (h : k < n) (hnc : n ≤ c) (hc2 : k + c2 = c) (w : World) :
    (Instr.slice 22 (.slice (some ad) n c) (some (.int .i64 (k : Int))) (some (.int .i64 ((k : Int) + 1))) none).run Tryd.prog w = .ok (.slice (some (ad.add k)) 1 c2) w := by
  have h1 : Tryd.prog.underlying 22 = some (.slice (Tryd.prog.elem 22)) := by kernel_rfl
  have h3 : Tryd.prog.elem 22 = 5 := by kernel_rfl
  have h4 : (Tryd.prog.info? 5).map (·.size) = some 1 := by kernel_rfl
  cases hq : Tryd.prog.info? 5 with
  | none => simp [hq] at h4
  | some i =>
    have hs1 : i.size = 1 := by simpa [hq] using h4
    rw [run_slice_lh (a := some ad) (len := n) (cap := c) (w := w) (t := 22) (ht := h1) .i64 .i64 (k : Int) ((k : Int) + 1) (by omega) (by omega) (by omega), h3]
    have e1 : ((k : Int) + 1).toNat - k = 1 := by omega
    have e2 : c - k = c2 := by omega
    have e3 : ¬ c = k := by omega
    simp [sizeOf, typeInfo, hq, hs1, sliced, e1, e2, e3]
theorem slice_head (ad : Addr) (n c k : Nat) (h : k < n) (hnc : n ≤ c) (w : World) :
    (Instr.slice 22 (.slice (some ad) n c) none (some (.int .i64 ((k : Int) + 1))) none).run Tryd.prog w = .ok (.slice (some ad) (k + 1) c) w := by
  have h1 : Tryd.prog.underlying 22 = some (.slice (Tryd.prog.elem 22)) := by kernel_rfl
  have h3 : Tryd.prog.elem 22 = 5 := by kernel_rfl
  have h4 : (Tryd.prog.info? 5).map (·.size) = some 1 := by kernel_rfl
  cases hq : Tryd.prog.info? 5 with
  | none => simp [hq] at h4
  | some i =>
    have hs1 : i.size = 1 := by simpa [hq] using h4
    rw [run_slice_h (a := some ad) (len := n) (cap := c) (w := w) (t := 22) (ht := h1) .i64 ((k : Int) + 1) (by omega) (by omega), h3]
    have e1 : ((k : Int) + 1).toNat = k + 1 := by omega
    have e4 : ad.add 0 = ad := rfl
    simp [sizeOf, typeInfo, hq, hs1, sliced, e1, e4]
theorem Rd.mid {w : World} {B : Nat} {ad : Addr} {bs : List Nat} (h : Rd w B (some ad) bs) (k : Nat) (hk : k < bs.length) : Rd w B (some (ad.add k)) [gt bs k] := by
  obtain ⟨ad', h1, h2, h3⟩ := h.2 (by omega)
  injection h1 with h1
  subst h1
  refine ⟨gt_lt_of_mem (by intro x hx; simp only [List.mem_cons, List.not_mem_nil, or_false] at hx; rw [hx]; exact h.1 k), fun _ => ⟨_, rfl, by rw [add_block]; exact h2, fun j hj => ?_⟩⟩
  have hj0 : j = 0 := by simp at hj; exact hj
  subst hj0
  rw [add_add, Nat.add_zero, h3 k hk, gt_cons_zero]
theorem Rd.upto {w : World} {B : Nat} {A : Option Addr} {bs : List Nat} (h : Rd w B A bs) (k : Nat) : Rd w B A (bs.take k) := by
  refine ⟨take_lt h.1 k, fun hn => ?_⟩
  rw [List.length_take] at hn
  obtain ⟨ad, h1, h2, h3⟩ := h.2 (by omega)
  refine ⟨ad, h1, h2, fun j hj => ?_⟩
  rw [List.length_take] at hj
  rw [h3 j (by omega), gt_take _ _ _ (by omega)]
theorem take_snoc (b : List Nat) (k : Nat) (h : k < b.length) : takeAll (takeAll start (b.take k)) [gt b k] = takeAll start (b.take (k + 1)) := by
  have e : b.take (k + 1) = b.take k ++ [gt b k] := by
    rw [List.take_succ_eq_append_getElem h]
    simp [gt, List.getD_eq_getElem?_getD, h]
  rw [e, takeAll_append]

set_option maxHeartbeats 4000000 in
set_option maxRecDepth 100000 in
theorem many_walk (A : Option Addr) (b : List Nat) (n c ev : Nat) (w : World) (hT : Tables w) (hR : Rd w w.heap.size A b) (hn : b.length = n) (hnc : n ≤ c) (hcm : c ≤ 9223372036854775807) (hm : n ≤ 2000) (hev : ev < 256) :
    Calls Tryd.prog 6 #[.slice A n c, .int .u8 ev] w fun e w' => e = .returned (.bool true) ∧ Below w.heap.size w w' := by
  have h2 := hT.lt
  have HT := Lib.hid hT; have HR := Lib.hid hR; have HN := Lib.hid (fun _ : Unit => hn); clear hT hR hn
  go_enter Tryd.func6, Tryd.ntmps6
  go_wp2_with fail
  refine (head_any _ HT.out).mono ?_
  rintro e' w1 ⟨rfl, hB1⟩
  have HB1 := Lib.hid hB1; clear hB1
  go_wp2_with fail
  refine (new_any _ (HT.out.below HB1.out h2)).mono ?_
  rintro e' w2 ⟨rfl, hS, hB, hz⟩
  have HX2 := Lib.hid hS; have HB2 := Lib.hid (HB1.out.trans (hB.mono HB1.out.size)); clear hS hB hz
  have hwx := HB1.out.size
  generalize w1.heap.size = x at *
  go_wp2_with fail
  go_loopw [7] (fun i W => ∃ k : Nat, k ≤ n ∧ i = .int .i64 k ∧ Hid (HsAt W x (takeAll start (b.take k))) ∧ Hid (Below w.heap.size w W)) (fun i _ => n - (intOf i).toNat)
  case atStart => exact ⟨0, by omega, rfl, HX2, HB2⟩
  case round =>
    obtain ⟨k, hk, rfl, HX3, HB3⟩ := hrel
    have hln : (takeAll start (b.take k)).n = k := by
      rw [takeAll_n, List.length_take, HN.out ()]; show 0 + min k n = k; omega
    have HG3 := Lib.hid (good_takeAll (b.take k) good_start (take_lt HR.out.1 k))
    by_cases hkn : k < n
    · obtain ⟨ad, rfl, _, _⟩ := HR.out.2 (by rw [HN.out ()]; omega)
      obtain ⟨c2, hc2, hc2'⟩ : ∃ c2 : Nat, k + c2 ≤ c ∧ c ≤ k + c2 := ⟨c - k, by omega, by omega⟩
      have hs1 := slice_one ad n c k c2 hkn hnc (by omega)
      have hs2 := slice_head ad n c k hkn hnc
      have HSN := Lib.hid (fun _ : Unit => take_snoc b k (by rw [HN.out ()]; exact hkn))
      generalize takeAll start (b.take k) = s at *
      go_wp2_with fail
      refine (write_any x s (some (ad.add k)) [gt b k] 1 c2 _ HX3.out HG3.out (HT.out.below HB3.out h2) (by omega) (((HR.out.below HB3.out).mid k (by rw [HN.out ()]; exact hkn)).apart (by omega) HB3.out.size) rfl (by omega) (by omega) (by omega)).mono ?_
      rintro e' w4 ⟨rfl, hS4, hG4⟩
      obtain ⟨s2, HS2e⟩ : ∃ s2, Hid (Unit → takeAll start (b.take (k + 1)) = s2) := ⟨_, Lib.hid fun _ => rfl⟩
      rw [HSN.out (), HS2e.out ()] at hS4
      have HX4 := Lib.hid hS4; have HB4 := Lib.hid (below_of_only HB3.out hG4 hwx); clear hS4 hG4
      have hln2 : s2.n = k + 1 := by
        rw [← HS2e.out (), takeAll_n, List.length_take, HN.out ()]; show 0 + min (k + 1) n = k + 1; omega
      have HG4 : Hid (Good s2) := Lib.hid (by rw [← HS2e.out ()]; exact good_takeAll (b.take (k + 1)) good_start (take_lt HR.out.1 (k + 1)))
      have HL4 : Hid (Unit → (b.take (k + 1)).length = k + 1) := Lib.hid fun _ => by rw [List.length_take, HN.out ()]; omega
      have HSU : Hid (Unit → sum (b.take (k + 1)) = sumOf s2) := Lib.hid fun _ => by rw [← HS2e.out ()]; rfl
      obtain ⟨d, hd, hd'⟩ : ∃ d : Nat, d ≤ ev + 1 ∧ ev + 1 ≤ d := ⟨ev + 1, by omega, by omega⟩
      obtain ⟨m, hm1⟩ : ∃ m : Nat, m = k % d := ⟨_, rfl⟩
      have x1 : IntKind.i64.wrap (ev : Int) = (ev : Int) := by rw [IntKind.wrap_i64]; omega
      have x2 : IntKind.i64.wrap (1 + (ev : Int)) = (d : Int) := by rw [IntKind.wrap_i64]; omega
      have x3 : Int.tmod (k : Int) (d : Int) = (m : Int) := by rw [← Int.ofNat_tmod, hm1]
      have x4 : ¬ d = 0 := by omega
      have x5 : IntKind.i64.wrap ((k : Int) + 1) = (k : Int) + 1 := by rw [IntKind.wrap_i64]; omega
      clear hm1
      go_wp2
      refine region_calm ?_
      refine wp_region_any (by kernel_rfl) ?_
      change wpAny _ _ _ _ _ _ _ (World.drew _)
      replace HX4 := Lib.hid HX4.out.drew
      replace HB4 := Lib.hid HB4.out.drew
      generalize w4.drew = wd at *
      refine wpAny_take (i := 0) (v := ?v0) rfl (by kernel_rfl) (by kernel_rfl) (by kernel_rfl) (fun _ _ _ h => h) (Or.inl ⟨by rfl, ?y0⟩) ?r0
      case y0 => (intro w; go_simp; try with_reducible rfl)
      simp only [List.getElem_toArray, List.getElem_cons_succ, List.getElem_cons_zero, Act.put, List.setIfInBounds_toArray, List.set_cons_zero, List.set_cons_succ]
      refine wpAny_take (i := 1) (v := ?v1) rfl (by kernel_rfl) (by kernel_rfl) (by kernel_rfl) (fun _ _ _ h => h) (Or.inl ⟨by rfl, ?y1⟩) ?r1
      case y1 => (intro w; go_simp; try with_reducible rfl)
      simp only [List.getElem_toArray, List.getElem_cons_succ, List.getElem_cons_zero, Act.put, List.setIfInBounds_toArray, List.set_cons_zero, List.set_cons_succ]
      refine wpAny_take (i := 2) (v := ?v2) rfl (by kernel_rfl) (by kernel_rfl) (by kernel_rfl) (fun _ _ _ h => h) (Or.inl ⟨by rfl, ?y2⟩) ?r2
      case y2 => (intro w; go_simp; try with_reducible rfl)
      simp only [List.getElem_toArray, List.getElem_cons_succ, List.getElem_cons_zero, Act.put, List.setIfInBounds_toArray, List.set_cons_zero, List.set_cons_succ]
      refine wpAny_take (i := 3) (v := ?v3) rfl (by kernel_rfl) (by kernel_rfl) (by kernel_rfl) (fun _ _ _ h => h) (Or.inl ⟨by rfl, ?y3⟩) ?r3
      case y3 => (intro w; go_simp; try with_reducible rfl)
      simp only [List.getElem_toArray, List.getElem_cons_succ, List.getElem_cons_zero, Act.put, List.setIfInBounds_toArray, List.set_cons_zero, List.set_cons_succ]
      refine wpAny_take (i := 4) (v := ?v4) rfl (by kernel_rfl) (by kernel_rfl) (by kernel_rfl) (fun _ _ _ h => h) (Or.inl ⟨by rfl, ?y4⟩) ?r4
      case y4 => (intro w; go_simp; try with_reducible rfl)
      simp only [List.getElem_toArray, List.getElem_cons_succ, List.getElem_cons_zero, Act.put, List.setIfInBounds_toArray, List.set_cons_zero, List.set_cons_succ]
      refine wpAny_take (i := 5) (v := ?v5) rfl (by kernel_rfl) (by kernel_rfl) (by kernel_rfl) (fun _ _ _ h => h) (Or.inl ⟨by rfl, ?y5⟩) ?r5
      case y5 => (intro w; go_simp; try with_reducible rfl)
      simp only [List.getElem_toArray, List.getElem_cons_succ, List.getElem_cons_zero, Act.put, List.setIfInBounds_toArray, List.set_cons_zero, List.set_cons_succ]
      by_cases hmz : m = 0
      · have hb : ((m : Int) == 0) = true := by rw [beq_iff_eq]; omega
        rw [hb]
        refine wpAny_take (i := 6) (v := ?v6p) rfl (by kernel_rfl) (by kernel_rfl) (by kernel_rfl) (fun _ _ _ h => h) (Or.inl ⟨by rfl, ?y6p⟩) ?r6p
        case y6p => (intro w; go_simp; try with_reducible rfl)
        simp only [List.getElem_toArray, List.getElem_cons_succ, List.getElem_cons_zero, Act.put, List.setIfInBounds_toArray, List.set_cons_zero, List.set_cons_succ]
        refine wpAny_take (i := 7) (v := ?v7p) rfl (by kernel_rfl) (by kernel_rfl) (by kernel_rfl) (fun _ _ _ h => h) (Or.inl ⟨by rfl, ?y7p⟩) ?r7p
        case y7p => (intro w; go_simp; try with_reducible rfl)
        simp only [List.getElem_toArray, List.getElem_cons_succ, List.getElem_cons_zero, Act.put, List.setIfInBounds_toArray, List.set_cons_zero, List.set_cons_succ]
        refine wpAny_take (i := 10) (v := ?v10p) rfl (by kernel_rfl) (by kernel_rfl) (by kernel_rfl) (fun _ _ _ h => h) (Or.inl ⟨by rfl, ?y10p⟩) ?r10p
        case y10p => (intro w; go_simp; try with_reducible rfl)
        simp only [List.getElem_toArray, List.getElem_cons_succ, List.getElem_cons_zero, Act.put, List.setIfInBounds_toArray, List.set_cons_zero, List.set_cons_succ]
        refine wpAny_take (i := 11) (v := ?v11p) rfl (by kernel_rfl) (by kernel_rfl) (by kernel_rfl) (fun _ _ _ h => h) (Or.inl ⟨by rfl, ?y11p⟩) ?r11p
        case y11p => (intro w; go_simp; try with_reducible rfl)
        simp only [List.getElem_toArray, List.getElem_cons_succ, List.getElem_cons_zero, Act.put, List.setIfInBounds_toArray, List.set_cons_zero, List.set_cons_succ]
        refine wpAny_take (i := 12) (v := ?v12p) rfl (by kernel_rfl) (by kernel_rfl) (by kernel_rfl) (fun _ _ _ h => h) (Or.inl ⟨by rfl, ?y12p⟩) ?r12p
        case y12p => (intro w; go_simp; try with_reducible rfl)
        simp only [List.getElem_toArray, List.getElem_cons_succ, List.getElem_cons_zero, Act.put, List.setIfInBounds_toArray, List.set_cons_zero, List.set_cons_succ]
        refine wpAny_take (i := 13) (v := ?v13p) rfl (by kernel_rfl) (by kernel_rfl) (by kernel_rfl) (fun _ _ _ h => h) (Or.inl ⟨by rfl, ?y13p⟩) ?r13p
        case y13p => (intro w; go_simp; try with_reducible rfl)
        simp only [List.getElem_toArray, List.getElem_cons_succ, List.getElem_cons_zero, Act.put, List.setIfInBounds_toArray, List.set_cons_zero, List.set_cons_succ]
        refine wpAny_ready (rs := [8]) (by kernel_rfl) (by simp) ?_
        refine AllReady.cons rfl (fun K hK => ?_) AllReady.nil
        simp only [List.getElem_toArray, List.getElem_cons_succ, List.getElem_cons_zero]
        go_simp
        refine (hsum_any x s2 _ HX4.out HG4.out (HT.out.below HB4.out h2) (by omega)).mono ?_
        rintro e' wa ⟨h1, k1, rfl, hown, hB⟩
        have HOa := Lib.hid hown; have HXa := Lib.hid (HX4.out.below hB HX4.out.lt); have HBa := Lib.hid (HB4.out.trans (hB.mono HB4.out.size))
        have hsa := conv_own hown
        clear hown hB
        refine hK _ _ ?_
        clear hK K
        try simp only [List.getElem_toArray, List.getElem_cons_succ, List.getElem_cons_zero, Act.put, List.setIfInBounds_toArray, List.set_cons_zero, List.set_cons_succ]
        refine wpAny_of_held (S := fun w' => (convert 22 9 (.slice (some ⟨h1, 0, none⟩) 32 k1)).run Tryd.prog w' = .ok (.string (txt (sumOf s2))) w') _ _ _ _ ?_
        refine wpAnyH_take (i := 9) (v := ?v9p) rfl (by kernel_rfl) (by kernel_rfl) (by kernel_rfl) (fun _ _ _ h => h) (Or.inl ⟨by rfl, ?y9p⟩) hsa ?r9p
        case y9p => (intro w hSw; (try dsimp only at hSw); go_simp; try with_reducible rfl)
        simp only [List.getElem_toArray, List.getElem_cons_succ, List.getElem_cons_zero, Act.put, List.setIfInBounds_toArray, List.set_cons_zero, List.set_cons_succ]
        refine wpAnyH_ready (rs := [14]) (by kernel_rfl) (by simp) ?_
        refine AllReadyH.cons rfl (fun K hK => ?_) AllReadyH.nil
        simp only [List.getElem_toArray, List.getElem_cons_succ, List.getElem_cons_zero]
        go_simp
        refine (sum_any (some ad) (b.take (k + 1)) (k + 1) c _ (HT.out.below HBa.out h2) (((HR.out.below HBa.out).upto (k + 1)).more HBa.out.size) (HL4.out ()) (by omega) hcm (by omega)).mono ?_
        rintro e' we ⟨h4', k4, rfl, hown, hB⟩
        rw [HSU.out ()] at hown
        have HOe := Lib.hid (own_below HOa.out hB (Nat.le_refl _)); have HXe := Lib.hid (HXa.out.below hB HXa.out.lt); have HBe := Lib.hid (HBa.out.trans (hB.mono HBa.out.size))
        have hse := conv_own HOe.out
        have hce := conv_own hown
        clear hown hB
        refine hK.out _ _ hse (fun _ => ?_)
        clear hK K
        try simp only [List.getElem_toArray, List.getElem_cons_succ, List.getElem_cons_zero, Act.put, List.setIfInBounds_toArray, List.set_cons_zero, List.set_cons_succ]
        refine wpAnyH_ready (rs := [15]) (by kernel_rfl) (by simp) ?_
        refine AllReadyH.cons rfl (fun K hK => ?_) AllReadyH.nil
        simp only [List.getElem_toArray, List.getElem_cons_succ, List.getElem_cons_zero]
        go_simp
        refine hK.out _ _ hse (fun _ => ?_)
        clear hK K
        try simp only [List.getElem_toArray, List.getElem_cons_succ, List.getElem_cons_zero, Act.put, List.setIfInBounds_toArray, List.set_cons_zero, List.set_cons_succ]
        refine wpAnyH_take (i := 16) (v := ?v16p) rfl (by kernel_rfl) (by kernel_rfl) (by kernel_rfl) (fun _ _ _ h => h) (Or.inl ⟨by rfl, ?y16p⟩) hse ?r16p
        case y16p => (intro w hSw; clear hSw; go_simp; try with_reducible rfl)
        simp only [List.getElem_toArray, List.getElem_cons_succ, List.getElem_cons_zero, Act.put, List.setIfInBounds_toArray, List.set_cons_zero, List.set_cons_succ]
        refine wpAnyH_take (i := 17) (v := ?v17p) rfl (by kernel_rfl) (by kernel_rfl) (by kernel_rfl) (fun _ _ _ h => h) (Or.inl ⟨by rfl, ?y17p⟩) hse ?r17p
        case y17p => (intro w hSw; clear hSw; go_simp; try with_reducible rfl)
        simp only [List.getElem_toArray, List.getElem_cons_succ, List.getElem_cons_zero, Act.put, List.setIfInBounds_toArray, List.set_cons_zero, List.set_cons_succ]
        refine wpAnyH_done (by kernel_rfl) ?_ _
        change Exit.then _ _ Exit.normal _ _
        go_wp2
        go_roundw
        case rel => exact ⟨k + 1, by omega, by go_num, Lib.hid (by rw [HS2e.out ()]; exact HXe.out), HBe⟩
        case measure => simp [intOf]; omega
      · have hb : ((m : Int) == 0) = false := by rw [beq_eq_false_iff_ne]; omega
        rw [hb]
        refine wpAny_take (i := 6) (v := ?v6q) rfl (by kernel_rfl) (by kernel_rfl) (by kernel_rfl) (fun _ _ _ h => h) (Or.inl ⟨by rfl, ?y6q⟩) ?r6q
        case y6q => (intro w; go_simp; try with_reducible rfl)
        simp only [List.getElem_toArray, List.getElem_cons_succ, List.getElem_cons_zero, Act.put, List.setIfInBounds_toArray, List.set_cons_zero, List.set_cons_succ]
        refine wpAny_take (i := 7) (v := undef) rfl (by kernel_rfl) (by kernel_rfl) (by kernel_rfl) (fun _ _ _ h => h) (Or.inr ⟨by rfl, rfl⟩) ?r7q
        simp only [List.getElem_toArray, List.getElem_cons_succ, List.getElem_cons_zero, Act.put, List.setIfInBounds_toArray, List.set_cons_zero, List.set_cons_succ]
        refine wpAny_take (i := 8) (v := undef) rfl (by kernel_rfl) (by kernel_rfl) (by kernel_rfl) (fun _ _ _ h => h) (Or.inr ⟨by rfl, rfl⟩) ?r8q
        simp only [List.getElem_toArray, List.getElem_cons_succ, List.getElem_cons_zero, Act.put, List.setIfInBounds_toArray, List.set_cons_zero, List.set_cons_succ]
        refine wpAny_take (i := 9) (v := undef) rfl (by kernel_rfl) (by kernel_rfl) (by kernel_rfl) (fun _ _ _ h => h) (Or.inr ⟨by rfl, rfl⟩) ?r9q
        simp only [List.getElem_toArray, List.getElem_cons_succ, List.getElem_cons_zero, Act.put, List.setIfInBounds_toArray, List.set_cons_zero, List.set_cons_succ]
        refine wpAny_take (i := 10) (v := undef) rfl (by kernel_rfl) (by kernel_rfl) (by kernel_rfl) (fun _ _ _ h => h) (Or.inr ⟨by rfl, rfl⟩) ?r10q
        simp only [List.getElem_toArray, List.getElem_cons_succ, List.getElem_cons_zero, Act.put, List.setIfInBounds_toArray, List.set_cons_zero, List.set_cons_succ]
        refine wpAny_take (i := 11) (v := undef) rfl (by kernel_rfl) (by kernel_rfl) (by kernel_rfl) (fun _ _ _ h => h) (Or.inr ⟨by rfl, rfl⟩) ?r11q
        simp only [List.getElem_toArray, List.getElem_cons_succ, List.getElem_cons_zero, Act.put, List.setIfInBounds_toArray, List.set_cons_zero, List.set_cons_succ]
        refine wpAny_take (i := 12) (v := undef) rfl (by kernel_rfl) (by kernel_rfl) (by kernel_rfl) (fun _ _ _ h => h) (Or.inr ⟨by rfl, rfl⟩) ?r12q
        simp only [List.getElem_toArray, List.getElem_cons_succ, List.getElem_cons_zero, Act.put, List.setIfInBounds_toArray, List.set_cons_zero, List.set_cons_succ]
        refine wpAny_take (i := 13) (v := undef) rfl (by kernel_rfl) (by kernel_rfl) (by kernel_rfl) (fun _ _ _ h => h) (Or.inr ⟨by rfl, rfl⟩) ?r13q
        simp only [List.getElem_toArray, List.getElem_cons_succ, List.getElem_cons_zero, Act.put, List.setIfInBounds_toArray, List.set_cons_zero, List.set_cons_succ]
        refine wpAny_take (i := 14) (v := undef) rfl (by kernel_rfl) (by kernel_rfl) (by kernel_rfl) (fun _ _ _ h => h) (Or.inr ⟨by rfl, rfl⟩) ?r14q
        simp only [List.getElem_toArray, List.getElem_cons_succ, List.getElem_cons_zero, Act.put, List.setIfInBounds_toArray, List.set_cons_zero, List.set_cons_succ]
        refine wpAny_take (i := 15) (v := undef) rfl (by kernel_rfl) (by kernel_rfl) (by kernel_rfl) (fun _ _ _ h => h) (Or.inr ⟨by rfl, rfl⟩) ?r15q
        simp only [List.getElem_toArray, List.getElem_cons_succ, List.getElem_cons_zero, Act.put, List.setIfInBounds_toArray, List.set_cons_zero, List.set_cons_succ]
        refine wpAny_take (i := 16) (v := undef) rfl (by kernel_rfl) (by kernel_rfl) (by kernel_rfl) (fun _ _ _ h => h) (Or.inr ⟨by rfl, rfl⟩) ?r16q
        simp only [List.getElem_toArray, List.getElem_cons_succ, List.getElem_cons_zero, Act.put, List.setIfInBounds_toArray, List.set_cons_zero, List.set_cons_succ]
        refine wpAny_take (i := 17) (v := ?v17q) rfl (by kernel_rfl) (by kernel_rfl) (by kernel_rfl) (fun _ _ _ h => h) (Or.inl ⟨by rfl, ?y17q⟩) ?r17q
        case y17q => (intro w; go_simp; try with_reducible rfl)
        simp only [List.getElem_toArray, List.getElem_cons_succ, List.getElem_cons_zero, Act.put, List.setIfInBounds_toArray, List.set_cons_zero, List.set_cons_succ]
        refine wpAny_done (by kernel_rfl) ?_ _
        change Exit.then _ _ Exit.normal _ _
        go_wp2
        go_roundw
        case rel => exact ⟨k + 1, by omega, by go_num, Lib.hid (by rw [HS2e.out ()]; exact HX4.out), HB4⟩
        case measure => simp [intOf]; omega
    · obtain rfl : k = n := by omega
      have HSU : Hid (Unit → sum b = sumOf (takeAll start (b.take k))) := Lib.hid fun _ => by rw [List.take_of_length_le (by rw [HN.out ()]; omega)]; rfl
      generalize takeAll start (b.take k) = s2 at *
      go_wp2
      refine region_calm ?_
      refine wp_region_any (by kernel_rfl) ?_
      change wpAny _ _ _ _ _ _ _ (World.drew _)
      replace HX3 := Lib.hid HX3.out.drew
      replace HB3 := Lib.hid HB3.out.drew
      generalize World.drew _ = wd at *
      refine wpAny_take (i := 0) (v := ?v0z) rfl (by kernel_rfl) (by kernel_rfl) (by kernel_rfl) (fun _ _ _ h => h) (Or.inl ⟨by rfl, ?y0z⟩) ?r0z
      case y0z => (intro w; go_simp; try with_reducible rfl)
      simp only [List.getElem_toArray, List.getElem_cons_succ, List.getElem_cons_zero, Act.put, List.setIfInBounds_toArray, List.set_cons_zero, List.set_cons_succ]
      refine wpAny_take (i := 1) (v := ?v1z) rfl (by kernel_rfl) (by kernel_rfl) (by kernel_rfl) (fun _ _ _ h => h) (Or.inl ⟨by rfl, ?y1z⟩) ?r1z
      case y1z => (intro w; go_simp; try with_reducible rfl)
      simp only [List.getElem_toArray, List.getElem_cons_succ, List.getElem_cons_zero, Act.put, List.setIfInBounds_toArray, List.set_cons_zero, List.set_cons_succ]
      refine wpAny_take (i := 2) (v := ?v2z) rfl (by kernel_rfl) (by kernel_rfl) (by kernel_rfl) (fun _ _ _ h => h) (Or.inl ⟨by rfl, ?y2z⟩) ?r2z
      case y2z => (intro w; go_simp; try with_reducible rfl)
      simp only [List.getElem_toArray, List.getElem_cons_succ, List.getElem_cons_zero, Act.put, List.setIfInBounds_toArray, List.set_cons_zero, List.set_cons_succ]
      refine wpAny_take (i := 5) (v := ?v5z) rfl (by kernel_rfl) (by kernel_rfl) (by kernel_rfl) (fun _ _ _ h => h) (Or.inl ⟨by rfl, ?y5z⟩) ?r5z
      case y5z => (intro w; go_simp; try with_reducible rfl)
      simp only [List.getElem_toArray, List.getElem_cons_succ, List.getElem_cons_zero, Act.put, List.setIfInBounds_toArray, List.set_cons_zero, List.set_cons_succ]
      refine wpAny_ready (rs := [3]) (by kernel_rfl) (by simp) ?_
      refine AllReady.cons rfl (fun K hK => ?_) AllReady.nil
      simp only [List.getElem_toArray, List.getElem_cons_succ, List.getElem_cons_zero]
      go_simp
      refine (hsum_any x s2 _ HX3.out HG3.out (HT.out.below HB3.out h2) (by omega)).mono ?_
      rintro e' wa ⟨h1, k1, rfl, hown, hB⟩
      have HOa := Lib.hid hown; have HXa := Lib.hid (HX3.out.below hB HX3.out.lt); have HBa := Lib.hid (HB3.out.trans (hB.mono HB3.out.size))
      have hsa := conv_own hown
      clear hown hB
      refine hK _ _ ?_
      clear hK K
      try simp only [List.getElem_toArray, List.getElem_cons_succ, List.getElem_cons_zero, Act.put, List.setIfInBounds_toArray, List.set_cons_zero, List.set_cons_succ]
      refine wpAny_of_held (S := fun w' => (convert 22 9 (.slice (some ⟨h1, 0, none⟩) 32 k1)).run Tryd.prog w' = .ok (.string (txt (sumOf s2))) w') _ _ _ _ ?_
      refine wpAnyH_take (i := 4) (v := ?v4z) rfl (by kernel_rfl) (by kernel_rfl) (by kernel_rfl) (fun _ _ _ h => h) (Or.inl ⟨by rfl, ?y4z⟩) hsa ?r4z
      case y4z => (intro w hSw; (try dsimp only at hSw); go_simp; try with_reducible rfl)
      simp only [List.getElem_toArray, List.getElem_cons_succ, List.getElem_cons_zero, Act.put, List.setIfInBounds_toArray, List.set_cons_zero, List.set_cons_succ]
      refine wpAnyH_ready (rs := [6]) (by kernel_rfl) (by simp) ?_
      refine AllReadyH.cons rfl (fun K hK => ?_) AllReadyH.nil
      simp only [List.getElem_toArray, List.getElem_cons_succ, List.getElem_cons_zero]
      go_simp
      refine (sum_any A b k c _ (HT.out.below HBa.out h2) ((HR.out.below HBa.out).more HBa.out.size) (HN.out ()) hnc hcm (by omega)).mono ?_
      rintro e' we ⟨h4', k4, rfl, hown, hB⟩
      rw [HSU.out ()] at hown
      have HOe := Lib.hid (own_below HOa.out hB (Nat.le_refl _)); have HXe := Lib.hid (HXa.out.below hB HXa.out.lt); have HBe := Lib.hid (HBa.out.trans (hB.mono HBa.out.size))
      have hse := conv_own HOe.out
      have hce := conv_own hown
      clear hown hB
      refine hK.out _ _ hse (fun _ => ?_)
      clear hK K
      try simp only [List.getElem_toArray, List.getElem_cons_succ, List.getElem_cons_zero, Act.put, List.setIfInBounds_toArray, List.set_cons_zero, List.set_cons_succ]
      refine wpAnyH_ready (rs := [7]) (by kernel_rfl) (by simp) ?_
      refine AllReadyH.cons rfl (fun K hK => ?_) AllReadyH.nil
      simp only [List.getElem_toArray, List.getElem_cons_succ, List.getElem_cons_zero]
      go_simp
      refine hK.out _ _ hse (fun _ => ?_)
      clear hK K
      try simp only [List.getElem_toArray, List.getElem_cons_succ, List.getElem_cons_zero, Act.put, List.setIfInBounds_toArray, List.set_cons_zero, List.set_cons_succ]
      refine wpAnyH_take (i := 8) (v := ?v8z) rfl (by kernel_rfl) (by kernel_rfl) (by kernel_rfl) (fun _ _ _ h => h) (Or.inl ⟨by rfl, ?y8z⟩) hse ?r8z
      case y8z => (intro w hSw; clear hSw; go_simp; try with_reducible rfl)
      simp only [List.getElem_toArray, List.getElem_cons_succ, List.getElem_cons_zero, Act.put, List.setIfInBounds_toArray, List.set_cons_zero, List.set_cons_succ]
      refine wpAnyH_take (i := 9) (v := ?v9z) rfl (by kernel_rfl) (by kernel_rfl) (by kernel_rfl) (fun _ _ _ h => h) (Or.inl ⟨by rfl, ?y9z⟩) hse ?r9z
      case y9z => (intro w hSw; clear hSw; go_simp; try with_reducible rfl)
      simp only [List.getElem_toArray, List.getElem_cons_succ, List.getElem_cons_zero, Act.put, List.setIfInBounds_toArray, List.set_cons_zero, List.set_cons_succ]
      refine wpAnyH_take (i := 10) (v := ?v10z) rfl (by kernel_rfl) (by kernel_rfl) (by kernel_rfl) (fun _ _ _ h => h) (Or.inl ⟨by rfl, ?y10z⟩) hse ?r10z
      case y10z => (intro w hSw; clear hSw; go_simp; try with_reducible rfl)
      simp only [List.getElem_toArray, List.getElem_cons_succ, List.getElem_cons_zero, Act.put, List.setIfInBounds_toArray, List.set_cons_zero, List.set_cons_succ]
      refine wpAnyH_take (i := 11) (v := ?v11z) rfl (by kernel_rfl) (by kernel_rfl) (by kernel_rfl) (fun _ _ _ h => h) (Or.inl ⟨by rfl, ?y11z⟩) hse ?r11z
      case y11z => (intro w hSw; clear hSw; go_simp; try with_reducible rfl)
      simp only [List.getElem_toArray, List.getElem_cons_succ, List.getElem_cons_zero, Act.put, List.setIfInBounds_toArray, List.set_cons_zero, List.set_cons_succ]
      refine wpAnyH_ready (rs := [12]) (by kernel_rfl) (by simp) ?_
      refine AllReadyH.cons rfl (fun K hK => ?_) AllReadyH.nil
      simp only [List.getElem_toArray, List.getElem_cons_succ, List.getElem_cons_zero]
      go_simp
      refine (hsum_any x s2 _ HXe.out HG3.out (HT.out.below HBe.out h2) (by omega)).mono ?_
      rintro e' wf ⟨h5', k5, rfl, hown, hB⟩
      have HBf := Lib.hid (HBe.out.trans (hB.mono HBe.out.size))
      have hsf := conv_own (own_below HOe.out hB (Nat.le_refl _))
      clear hown hB
      refine hK.out _ _ hsf (fun _ => ?_)
      clear hK K
      try simp only [List.getElem_toArray, List.getElem_cons_succ, List.getElem_cons_zero, Act.put, List.setIfInBounds_toArray, List.set_cons_zero, List.set_cons_succ]
      refine wpAnyH_take (i := 13) (v := ?v13z) rfl (by kernel_rfl) (by kernel_rfl) (by kernel_rfl) (fun _ _ _ h => h) (Or.inl ⟨by rfl, ?y13z⟩) hsf ?r13z
      case y13z => (intro w hSw; clear hSw; go_simp; try with_reducible rfl)
      simp only [List.getElem_toArray, List.getElem_cons_succ, List.getElem_cons_zero, Act.put, List.setIfInBounds_toArray, List.set_cons_zero, List.set_cons_succ]
      refine wpAnyH_take (i := 14) (v := ?v14z) rfl (by kernel_rfl) (by kernel_rfl) (by kernel_rfl) (fun _ _ _ h => h) (Or.inl ⟨by rfl, ?y14z⟩) hsf ?r14z
      case y14z => (intro w hSw; clear hSw; go_simp; try with_reducible rfl)
      simp only [List.getElem_toArray, List.getElem_cons_succ, List.getElem_cons_zero, Act.put, List.setIfInBounds_toArray, List.set_cons_zero, List.set_cons_succ]
      refine wpAnyH_take (i := 15) (v := ?v15z) rfl (by kernel_rfl) (by kernel_rfl) (by kernel_rfl) (fun _ _ _ h => h) (Or.inl ⟨by rfl, ?y15z⟩) hsf ?r15z
      case y15z => (intro w hSw; clear hSw; go_simp; try with_reducible rfl)
      simp only [List.getElem_toArray, List.getElem_cons_succ, List.getElem_cons_zero, Act.put, List.setIfInBounds_toArray, List.set_cons_zero, List.set_cons_succ]
      refine wpAnyH_take (i := 16) (v := ?v16z) rfl (by kernel_rfl) (by kernel_rfl) (by kernel_rfl) (fun _ _ _ h => h) (Or.inl ⟨by rfl, ?y16z⟩) hsf ?r16z
      case y16z => (intro w hSw; clear hSw; go_simp; try with_reducible rfl)
      simp only [List.getElem_toArray, List.getElem_cons_succ, List.getElem_cons_zero, Act.put, List.setIfInBounds_toArray, List.set_cons_zero, List.set_cons_succ]
      refine wpAnyH_done (by kernel_rfl) ?_ _
      change Exit.then _ _ Exit.normal _ _
      go_wp2
      go_ret
      exact ⟨rfl, HBf.out⟩

set_option maxHeartbeats 1000000 in
theorem many_great (A : Option Addr) (n c : Nat) (ev : Int) (w : World) (hT : Tables w) (h : 2000 < n) :
    Calls Tryd.prog 6 #[.slice A n c, .int .u8 ev] w fun e w' => e = .returned (.bool true) ∧ Below w.heap.size w w' := by
  have HT := Lib.hid hT; clear hT
  go_enter Tryd.func6, Tryd.ntmps6
  go_wp2_with fail
  refine (head_any _ HT.out).mono ?_
  rintro e' w1 ⟨rfl, hB1⟩
  have HB1 := Lib.hid hB1; clear hB1
  go_wp2
  go_ret
  exact ⟨rfl, HB1.out⟩

theorem sha2Many_walk (a0 : Option Addr) (len0 cap0 : Nat) (z0 : List Int) (a1 : Int) (w : World) (hT : Tables w) (w0 : IsRow .u8 w a0 len0 cap0 z0) (w1 : (Lit.int .u8 a1).wf = true) :
    Calls Tryd.prog 6 #[.slice a0 len0 cap0, .int .u8 a1] w fun e w' => e = .returned (.bool true) ∧ Below w.heap.size w w' := by
  obtain ⟨r0, n0, m0, c0, x0⟩ := rd_of_row w0
  obtain ⟨k, rfl, hk⟩ := byte_of_wf w1
  by_cases h : 2000 < len0
  · exact many_great a0 len0 cap0 k w hT h
  · exact many_walk a0 _ len0 cap0 k w hT r0 n0 m0 c0 (by omega) hk

end Go.Proofs.YtcgdpjdbfhdkkaaDoor.Sha
