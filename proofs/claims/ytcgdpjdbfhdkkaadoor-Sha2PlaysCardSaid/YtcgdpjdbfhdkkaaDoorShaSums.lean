/- Walks: Sha2Sums. -/
import Derived.Test.YtcgdpjdbfhdkkaaDoorShaRefC
namespace Go.Proofs.YtcgdpjdbfhdkkaaDoor.Sha
open Go.RowKit
attribute [local go_sem ↓] Go.wp_at_zero Go.wp_at_succ

/-- bytes of one's own, whatever they are by now -/
def Bytes (w : World) (g n : Nat) : Prop := ∃ cur : Array Value, w.heap[g]? = some (.cells cur 5 (0, 0)) ∧ ∀ i, i < n → ∃ z : Int, cur[i]? = some (.int .u8 z)
theorem Bytes.cell {w : World} {g n : Nat} (h : Bytes w g n) (i : Nat) (hi : i < n) : ∃ z : Int, w.cell? ⟨g, i, none⟩ = some (.int .u8 z) := by
  obtain ⟨cur, h1, h2⟩ := h
  obtain ⟨z, hz⟩ := h2 i hi
  exact ⟨z, by rw [cell_of_row w g i cur 5 (0, 0) h1, hz]⟩
theorem Bytes.frozen {w : World} {g n : Nat} (h : Bytes w g n) (i : Nat) : w.frozen? ⟨g, i, none⟩ = false := by
  obtain ⟨cur, h1, _⟩ := h
  simp [World.frozen?, h1]
theorem Bytes.set {w : World} {g n : Nat} (h : Bytes w g n) (i : Nat) (z : Int) : Bytes (w.setCell ⟨g, i, none⟩ (.int .u8 z)) g n := by
  obtain ⟨cur, h1, h2⟩ := h
  refine ⟨cur.setIfInBounds i (.int .u8 z), ?_, fun j hj => ?_⟩
  · rw [setCell_eq_setRow w g i cur 5 (0, 0) (.int .u8 z) h1]
    exact setRow_heap w g _ _ 5 _ h1
  · obtain ⟨y, hy⟩ := h2 j hj
    rw [Array.getElem?_setIfInBounds]
    by_cases e : i = j
    · subst e
      have : i < cur.size := by
        rcases Nat.lt_or_ge i cur.size with h | h
        · exact h
        · rw [Array.getElem?_eq_none h] at hy; cases hy
      exact ⟨z, by simp [this]⟩
    · exact ⟨y, by rw [if_neg e]; exact hy⟩
theorem Bytes.drew {w : World} {g n : Nat} (h : Bytes w g n) : Bytes w.drew g n := h
theorem bytes_of_own {w : World} {base g n cap : Nat} {xs : List Nat} (h : w.ownsRow base 5 1 (.slice (some ⟨g, 0, none⟩) n cap) n (bcells xs)) : Bytes w g n := by
  have hl : xs.length = n := by have := h.1; rw [bcells_len] at this; omega
  rcases h.2 with ⟨e, _⟩ | ⟨g', c, cur, e, _, hc, _, _, hs, ht⟩
  · cases e
  · injection e with e1 _ _
    have e2 : (⟨g, 0, none⟩ : Addr) = ⟨g', 0, none⟩ := Option.some.inj e1
    injection e2 with e3
    subst e3
    refine ⟨cur, hc, fun i hi => ⟨(gt xs i : Nat), ?_⟩⟩
    have h5 := bcells_at xs i (by omega)
    rw [← ht, Nat.mul_one, List.getElem?_take_of_lt hi, Array.getElem?_toList] at h5
    exact h5

set_option maxHeartbeats 4000000 in
set_option maxRecDepth 100000 in
theorem sums_walk (A : Option Addr) (b : List Nat) (n c : Nat) (w : World) (hT : Tables w) (hR : Rd w w.heap.size A b) (hn : b.length = n) (hc : A = none → c = 0) (hm : n ≤ 20000) :
    Calls Tryd.prog 3 #[.slice A n c] w fun e w' => e = .returned (.bool true) ∧ Below w.heap.size w w' := by
  have h2 := hT.lt
  have HT := Lib.hid hT; have HR := Lib.hid hR; have HN := Lib.hid (fun _ : Unit => hn); have HC := Lib.hid hc; clear hT hR hn hc
  go_enter Tryd.func3, Tryd.ntmps3
  go_wp2_with fail
  refine (head_any _ HT.out).mono ?_
  rintro e' w1 ⟨rfl, hB1⟩
  have HB1 := Lib.hid hB1; clear hB1
  go_wp2_with fail
  refine (great_no _ _ _ _ hm).mono ?_
  rintro e' w2 ⟨rfl, rfl⟩
  have HNIL : Hid ((w1.alloc (.cells #[] 5)).ownsRow w.heap.size 5 1 (.slice (some ⟨w1.heap.size, 0, none⟩) 0 0) 0 (bcells [])) := Lib.hid (World.ownsRow_made w1 #[] 0 HB1.out.size (by unfold maxLen; omega) rfl)
  have HB1a := Lib.hid (HB1.out.alloc HB1.out.size (.cells #[] 5))
  go_wp2_with (at_builtin; refine wpList_append_rd rfl (.tmp 11) (.tmp 12) rfl w.heap.size w1.heap.size 0 0 n c w.heap.size [] b A rfl rfl HNIL.out (HR.out.below HB1a.out) (HN.out ()) HC.out (by omega) HB1a.out.size ?_)
  intro g1 cap1 w3 hown hgrow hat
  have HO3 := Lib.hid hown; have HB3 := Lib.hid (below_of_only HB1a.out hgrow HB1.out.size); clear hown hgrow hat HNIL HB1a
  have hcap := own_cap HO3.out
  unfold maxLen at hcap
  have hg1 := HO3.out.lt g1 rfl
  have HR3 := Lib.hid (rd_of_own HO3.out HR.out.1 (Nat.le_refl _))
  go_wp2_with fail
  refine (sum_any (some ⟨g1, 0, none⟩) b n cap1 _ (HT.out.below HB3.out h2) HR3.out (HN.out ()) hcap.1 hcap.2 (by omega)).mono ?_
  rintro e' w4 ⟨hx, capx, rfl, hown4, hB4⟩
  have HBY := Lib.hid (bytes_of_own (own_below HO3.out hB4 (Nat.le_refl _)))
  have HX4 := Lib.hid hown4; have HB4 := Lib.hid (HB3.out.trans (hB4.mono HB3.out.size))
  have hx1 := hown4.lt hx rfl
  have hxg : hx ≠ g1 := by omega
  clear hown4 hB4
  go_wp2
  go_loopw [6] (fun i W => ∃ k : Nat, k ≤ n ∧ i = .int .i64 k ∧ Hid (Bytes W g1 n) ∧ Hid (W.ownsRow w3.heap.size 5 1 (.slice (some ⟨hx, 0, none⟩) 32 capx) 32 (bcells (sum b))) ∧ Hid (Below w.heap.size w W)) (fun i _ => n - (intOf i).toNat)
  case atStart => exact ⟨0, by omega, rfl, HBY, HX4, HB4⟩
  case round =>
    obtain ⟨k, hk, rfl, HBY5, HX5, HB5⟩ := hrel
    by_cases hkn : k < n
    · obtain ⟨z, c0⟩ := HBY5.out.cell k hkn
      have f0 := HBY5.out.frozen k
      have yk : (k : Int) < (n : Int) := by omega
      go_wp2
      go_roundw
      case rel =>
        refine ⟨k + 1, by omega, by go_num, Lib.hid (HBY5.out.set k _), Lib.hid (HX5.out.kept (only_set (World.grownBy.refl wr (some g1)) (p := ⟨g1, k, none⟩) (.inl rfl) _) (.inr (by intro e; have e' : hx = g1 := Option.some.inj e; omega))), Lib.hid (HB5.out.setCell (by show w.heap.size ≤ g1; omega) _)⟩
      case measure => simp [intOf]; omega
    · obtain rfl : k = n := by omega
      go_wp2
      refine region_calm ?_
      refine wp_region_any (by kernel_rfl) ?_
      change wpAny _ _ _ _ _ _ _ (World.drew _)
      replace HX5 := Lib.hid HX5.out.drew
      replace HB5 := Lib.hid HB5.out.drew
      generalize World.drew _ = wd at *
      have hS := conv_own HX5.out
      refine wpAny_of_held (S := fun w' => (convert 22 9 (.slice (some ⟨hx, 0, none⟩) 32 capx)).run Tryd.prog w' = .ok (.string (txt (sum b))) w') _ _ _ _ ?_
      refine wpAnyH_take (i := 0) (v := ?v0) rfl (by kernel_rfl) (by kernel_rfl) (by kernel_rfl) (fun _ _ _ h => h) (Or.inl ⟨by rfl, ?y0⟩) hS ?r0
      case y0 => (intro w hSw; (try dsimp only at hSw); go_simp; try with_reducible rfl)
      simp only [List.getElem_toArray, List.getElem_cons_succ, List.getElem_cons_zero, Act.put, List.setIfInBounds_toArray, List.set_cons_zero, List.set_cons_succ]
      refine wpAnyH_take (i := 1) (v := ?v1) rfl (by kernel_rfl) (by kernel_rfl) (by kernel_rfl) (fun _ _ _ h => h) (Or.inl ⟨by rfl, ?y1⟩) hS ?r1
      case y1 => (intro w hSw; (try dsimp only at hSw); go_simp; try with_reducible rfl)
      simp only [List.getElem_toArray, List.getElem_cons_succ, List.getElem_cons_zero, Act.put, List.setIfInBounds_toArray, List.set_cons_zero, List.set_cons_succ]
      refine wpAnyH_take (i := 2) (v := ?v2) rfl (by kernel_rfl) (by kernel_rfl) (by kernel_rfl) (fun _ _ _ h => h) (Or.inl ⟨by rfl, ?y2⟩) hS ?r2
      case y2 => (intro w hSw; (try dsimp only at hSw); go_simp; try with_reducible rfl)
      simp only [List.getElem_toArray, List.getElem_cons_succ, List.getElem_cons_zero, Act.put, List.setIfInBounds_toArray, List.set_cons_zero, List.set_cons_succ]
      refine wpAnyH_take (i := 3) (v := ?v3) rfl (by kernel_rfl) (by kernel_rfl) (by kernel_rfl) (fun _ _ _ h => h) (Or.inl ⟨by rfl, ?y3⟩) hS ?r3
      case y3 => (intro w hSw; (try dsimp only at hSw); go_simp; try with_reducible rfl)
      simp only [List.getElem_toArray, List.getElem_cons_succ, List.getElem_cons_zero, Act.put, List.setIfInBounds_toArray, List.set_cons_zero, List.set_cons_succ]
      refine wpAnyH_take (i := 4) (v := ?v4) rfl (by kernel_rfl) (by kernel_rfl) (by kernel_rfl) (fun _ _ _ h => h) (Or.inl ⟨by rfl, ?y4⟩) hS ?r4
      case y4 => (intro w hSw; (try dsimp only at hSw); go_simp; try with_reducible rfl)
      simp only [List.getElem_toArray, List.getElem_cons_succ, List.getElem_cons_zero, Act.put, List.setIfInBounds_toArray, List.set_cons_zero, List.set_cons_succ]
      refine wpAnyH_ready (rs := [5]) (by kernel_rfl) (by simp) ?_
      refine AllReadyH.cons rfl (fun K hK => ?_) AllReadyH.nil
      simp only [List.getElem_toArray, List.getElem_cons_succ, List.getElem_cons_zero]
      go_simp
      refine (rsum_any A b k c _ ((HR.out.below HB5.out).more HB5.out.size) (HN.out ()) HC.out (by omega)).mono ?_
      rintro e' we ⟨h4, k4, rfl, hown, hB⟩
      have HXe := Lib.hid (own_below HX5.out hB (Nat.le_refl _)); have HBe := Lib.hid (HB5.out.trans (hB.mono HB5.out.size))
      have hse := conv_own HXe.out
      have hce := conv_own hown
      clear hown hB
      refine hK.out _ _ hse (fun _ => ?_)
      clear hK K
      try simp only [List.getElem_toArray, List.getElem_cons_succ, List.getElem_cons_zero, Act.put, List.setIfInBounds_toArray, List.set_cons_zero, List.set_cons_succ]
      refine wpAnyH_ready (rs := [6]) (by kernel_rfl) (by simp) ?_
      refine AllReadyH.cons rfl (fun K hK => ?_) AllReadyH.nil
      simp only [List.getElem_toArray, List.getElem_cons_succ, List.getElem_cons_zero]
      go_simp
      refine hK.out _ _ hse (fun _ => ?_)
      clear hK K
      try simp only [List.getElem_toArray, List.getElem_cons_succ, List.getElem_cons_zero, Act.put, List.setIfInBounds_toArray, List.set_cons_zero, List.set_cons_succ]
      refine wpAnyH_take (i := 7) (v := ?v7) rfl (by kernel_rfl) (by kernel_rfl) (by kernel_rfl) (fun _ _ _ h => h) (Or.inl ⟨by rfl, ?y7⟩) hse ?r7
      case y7 => (intro w hSw; clear hSw; go_simp; try with_reducible rfl)
      simp only [List.getElem_toArray, List.getElem_cons_succ, List.getElem_cons_zero, Act.put, List.setIfInBounds_toArray, List.set_cons_zero, List.set_cons_succ]
      refine wpAnyH_take (i := 8) (v := ?v8) rfl (by kernel_rfl) (by kernel_rfl) (by kernel_rfl) (fun _ _ _ h => h) (Or.inl ⟨by rfl, ?y8⟩) hse ?r8
      case y8 => (intro w hSw; clear hSw; go_simp; try with_reducible rfl)
      simp only [List.getElem_toArray, List.getElem_cons_succ, List.getElem_cons_zero, Act.put, List.setIfInBounds_toArray, List.set_cons_zero, List.set_cons_succ]
      refine wpAnyH_take (i := 9) (v := ?v9) rfl (by kernel_rfl) (by kernel_rfl) (by kernel_rfl) (fun _ _ _ h => h) (Or.inl ⟨by rfl, ?y9⟩) hse ?r9
      case y9 => (intro w hSw; clear hSw; go_simp; try with_reducible rfl)
      simp only [List.getElem_toArray, List.getElem_cons_succ, List.getElem_cons_zero, Act.put, List.setIfInBounds_toArray, List.set_cons_zero, List.set_cons_succ]
      refine wpAnyH_done (by kernel_rfl) ?_ _
      change Exit.then _ _ Exit.normal _ _
      go_wp2
      go_ret
      exact ⟨rfl, HBe.out⟩

set_option maxHeartbeats 1000000 in
theorem sums_great (A : Option Addr) (n c : Nat) (w : World) (hT : Tables w) (h : 20000 < n) :
    Calls Tryd.prog 3 #[.slice A n c] w fun e w' => e = .returned (.bool true) ∧ Below w.heap.size w w' := by
  have HT := Lib.hid hT; clear hT
  go_enter Tryd.func3, Tryd.ntmps3
  go_wp2_with fail
  refine (head_any _ HT.out).mono ?_
  rintro e' w1 ⟨rfl, hB1⟩
  have HB1 := Lib.hid hB1; clear hB1
  go_wp2_with fail
  refine (great_yes _ _ _ _ h).mono ?_
  rintro e' w2 ⟨rfl, rfl⟩
  go_wp2
  go_ret
  exact ⟨rfl, HB1.out⟩

theorem sha2Sums_walk (a0 : Option Addr) (len0 cap0 : Nat) (z0 : List Int) (w : World) (hT : Tables w) (w0 : IsRow .u8 w a0 len0 cap0 z0) :
    Calls Tryd.prog 3 #[.slice a0 len0 cap0] w fun e w' => e = .returned (.bool true) ∧ Below w.heap.size w w' := by
  obtain ⟨r0, n0, m0, c0, x0⟩ := rd_of_row w0
  by_cases h : 20000 < len0
  · exact sums_great a0 len0 cap0 w hT h
  · exact sums_walk a0 _ len0 cap0 w hT r0 n0 x0 (by omega)

end Go.Proofs.YtcgdpjdbfhdkkaaDoor.Sha
