/- Walks: HkdfParts. -/
import Derived.Test.YtfcnhendebjjeaaDoorHkBegin
namespace Go.Proofs.YtfcnhendebjjeaaDoor.Sha
set_option linter.all false
open Go.RowKit Iter
attribute [local go_sem ↓] Go.wp_at_zero Go.wp_at_succ

theorem nil_own (w : World) {base : Nat} (h : base ≤ w.heap.size) : (w.alloc (.cells #[] 5)).ownsRow base 5 1 (.slice (some ⟨w.heap.size, 0, none⟩) 0 0) 0 (bcells []) := World.ownsRow_made w #[] 0 h (by unfold maxLen; omega) rfl
theorem upto_succ (k info : List Nat) (i : Nat) : upto k info (i + 1) = upto k info i ++ piece k info (i + 1) := rfl
theorem piece_succ (k info : List Nat) (i : Nat) : piece k info (i + 1) = tag k (piece k info i ++ (info ++ [i + 1])) := rfl
theorem piece_one (k info : List Nat) : piece k info 1 = tag k (info ++ [1]) := by
  have h := piece_succ k info 0
  rw [show piece k info 0 = [] from rfl, List.nil_append] at h
  exact h
theorem piece_two (k info : List Nat) : piece k info 2 = tag k (tag k (info ++ [1]) ++ (info ++ [2])) := by
  have h := piece_succ k info 1
  rw [piece_one] at h
  exact h
theorem upto_two (k info : List Nat) : upto k info 2 = tag k (info ++ [1]) ++ tag k (tag k (info ++ [1]) ++ (info ++ [2])) := by
  have h0 : upto k info 1 = piece k info 1 := by
    have h := upto_succ k info 0
    rw [show upto k info 0 = [] from rfl, List.nil_append] at h
    exact h
  have h1 := upto_succ k info 1
  rw [h0, piece_one, show 1 + 1 = 2 from rfl, piece_two] at h1
  exact h1
theorem mac_tag (key t : List Nat) : mac key t = tag (blockK key) t := rfl
theorem expand_two (key info : List Nat) : expand key info 64 = mac key (info ++ [1]) ++ mac key (mac key (info ++ [1]) ++ (info ++ [2])) := by
  unfold expand
  rw [expand_take (i := 2) (by omega) (by omega), List.take_of_length_le (by rw [upto_len]; omega), upto_two, mac_tag, mac_tag]

set_option maxHeartbeats 8000000 in
set_option maxRecDepth 100000 in
theorem parts_walk (A A2 : Option Addr) (a b : List Nat) (na nb ca cb : Nat) (w : World) (hT : Tables w) (hRa : Rd w w.heap.size A a) (hRb : Rd w w.heap.size A2 b) (hna : a.length = na) (hnb : b.length = nb)
    (hla : na ≤ ca) (hlb : nb ≤ cb) (hxa : ca ≤ 9223372036854775807) (hxb : cb ≤ 9223372036854775807) (hcb : A2 = none → cb = 0) (hma : na ≤ 17000) (hmb : nb ≤ 17000) :
    Calls Tryd.prog 8 #[.slice A na ca, .slice A2 nb cb] w fun e w' => e = .returned (.bool true) ∧ Below w.heap.size w w' := by
  have h2 := hT.lt
  have HT := Lib.hid hT; have HRa := Lib.hid hRa; have HRb := Lib.hid hRb; have HNa := Lib.hid (fun _ : Unit => hna); have HNb := Lib.hid (fun _ : Unit => hnb); have HCb := Lib.hid hcb
  clear hT hRa hRb hna hnb hcb
  go_enter Tryd.func8, Tryd.ntmps8
  go_wp2_with fail
  refine (head_any _ HT.out).mono ?_
  rintro e' w1 ⟨rfl, hB1⟩
  have HB1 := Lib.hid hB1; clear hB1
  go_wp2_with fail
  refine (great_no _ _ _ _ hma).mono ?_
  rintro e' w2 ⟨rfl, rfl⟩
  go_wp2_with fail
  refine (great_no _ _ _ _ hmb).mono ?_
  rintro e' w2 ⟨rfl, rfl⟩
  go_wp2_with fail
  refine (expand_any A A2 a b na ca nb cb 64 w1 (HT.out.below HB1.out h2) ((HRa.out.below HB1.out).more HB1.out.size) (HNa.out ()) hla hxa (by omega) ((HRb.out.below HB1.out).more HB1.out.size) (HNb.out ()) hlb hxb (by omega) (by omega)).mono ?_
  rintro e' w2 ⟨h1, rfl, hown1, hB2⟩
  have HX := Lib.hid hown1; have HB2 := Lib.hid (HB1.out.trans (hB2.mono HB1.out.size)); clear hown1 hB2
  -- one
  have hs2 := HB2.out.size
  have HNIL := Lib.hid (nil_own w2 (base := w2.heap.size) (Nat.le_refl _))
  have HB2a := Lib.hid (HB2.out.alloc hs2 (.cells #[] 5))
  have HRb2 := Lib.hid (HRb.out.below HB2a.out)
  go_wp2_with (at_builtin; refine wpList_append_rd rfl (.tmp 21) (.tmp 22) rfl w2.heap.size w2.heap.size 0 0 nb cb w.heap.size [] b A2 rfl rfl HNIL.out HRb2.out (HNb.out ()) HCb.out (by omega) (by simp) ?_)
  intro g3 cap3 w3 hown hgrow hat
  have HG3 := Lib.hid hgrow; have HO3 := Lib.hid hown; have HB3 := Lib.hid (below_of_only HB2a.out hgrow (by first | omega | exact Nat.le_trans (show w.heap.size ≤ w2.heap.size by omega) (HNIL.out.lt _ rfl).1))
  clear hown hgrow hat
  have hh1 : h1 < w2.heap.size := (HX.out.lt _ rfl).2
  have HX3 : Hid (w3.ownsRow w1.heap.size 5 1 (.slice (some ⟨h1, 0, none⟩) 64 64) 64 (bcells (expand a b 64))) := Lib.hid (own_kept HX.out (by
    have e1 := (Below.heap_alloc w2 (.cells #[] 5) h1 hh1)
    have e2 := HG3.out.block h1 (by simp; omega) (by intro e; have := Option.some.inj e; omega)
    exact e2.trans e1))
  try simp only [Nat.zero_add, List.nil_append] at HO3
  have hs3 := HB3.out.size
  have hg3 := (HO3.out.lt _ rfl)
  have HBy3 := Lib.hid (byte_rd w3 1 1 rfl (by omega) (B := w3.heap.size + 1) (by omega))
  have HO3a := Lib.hid (own_below HO3.out ((Below.refl w3.heap.size w3).alloc (Nat.le_refl _) (.cells #[.int .u8 1] 5)) (Nat.le_refl _))
  have HB3a := Lib.hid (HB3.out.alloc hs3 (.cells #[.int .u8 1] 5))
  have HX3a := Lib.hid (own_below HX3.out ((Below.refl w3.heap.size w3).alloc (Nat.le_refl _) (.cells #[.int .u8 1] 5)) (Nat.le_refl _))
  have hw23 : w2.heap.size ≤ w3.heap.size := by omega
  go_wp2_with (at_builtin; refine wpList_append_rd rfl (.tmp 23) (.tmp 24) rfl w2.heap.size g3 nb cap3 1 1 (w3.heap.size + 1) b [1] (some ⟨w3.heap.size, 0, none⟩) rfl rfl HO3a.out HBy3.out rfl (fun e => by cases e) (by omega) (by simp; omega) ?_)
  intro g4 cap4 w4 hown hgrow hat
  have HG4 := Lib.hid hgrow; have HO4 := Lib.hid hown; have HB4 := Lib.hid (below_of_only HB3a.out hgrow (by first | omega | exact Nat.le_trans (show w.heap.size ≤ w2.heap.size by omega) (HO3a.out.lt _ rfl).1))
  clear hown hgrow hat
  have HX4 : Hid (w4.ownsRow w1.heap.size 5 1 (.slice (some ⟨h1, 0, none⟩) 64 64) 64 (bcells (expand a b 64))) := Lib.hid (own_kept HX3a.out (HG4.out.block h1 (by simp; omega) (by intro e; have := Option.some.inj e; omega)))
  have hcp4 := own_cap HO4.out
  unfold maxLen at hcp4
  have HT4 := Lib.hid (HT.out.below HB4.out h2)
  have HRa4 := Lib.hid ((HRa.out.below HB4.out).more HB4.out.size)
  have HR4 := Lib.hid (rd_of_own HO4.out (gt_append_lt HRb.out.1 (gt_lt_of_mem (by decide))) (Nat.le_refl _))
  clear HX HX3 HX3a HO3 HO3a HG3 HG4 HBy3 HNIL HB2a HB3 HB3a HRb2
  go_wp2_with fail
  refine (mac_any A (some ⟨g4, 0, none⟩) a (b ++ [1]) na ca (nb + 1) cap4 w4 HT4.out HRa4.out (HNa.out ()) hla hxa (by omega) HR4.out (by rw [List.length_append, HNb.out ()]; rfl) hcp4.1 hcp4.2 (by omega)).mono ?_
  rintro e' w5 ⟨h5, c5, rfl, hown5, hB5⟩
  have hcp5 := own_cap hown5
  unfold maxLen at hcp5
  have HX5 := Lib.hid (own_below HX4.out hB5 (Nat.le_refl _)); have HO5 := Lib.hid hown5; have HB5 := Lib.hid (HB4.out.trans (hB5.mono HB4.out.size))
  clear hown5 hB5 HX4 HO4 HR4 HT4 HRa4
  obtain ⟨m1, hm1⟩ : ∃ m1, mac a (b ++ [1]) = m1 := ⟨_, rfl⟩
  rw [hm1] at HO5
  have hm1l : Hid (m1.length = 32 ∧ ∀ j, gt m1 j < 256) := Lib.hid (by rw [← hm1]; exact ⟨mac_len _ _, mac_lt _ _⟩)
  have HM1 := Lib.hid (fun _ : Unit => hm1); clear hm1
  -- two
  have hs5 := HB5.out.size
  have hh5 : h5 < w5.heap.size := (HO5.out.lt _ rfl).2
  have hh15 : h1 < w5.heap.size := (HX5.out.lt _ rfl).2
  have HNIL := Lib.hid (nil_own w5 (base := w5.heap.size) (Nat.le_refl _))
  have HB5a := Lib.hid (HB5.out.alloc hs5 (.cells #[] 5))
  have HA5 := Lib.hid ((Below.refl w5.heap.size w5).alloc (Nat.le_refl _) (.cells #[] 5))
  have HR5a := Lib.hid ((rd_of_own HO5.out hm1l.out.2 (Nat.le_refl _)).below HA5.out)
  go_wp2_with (at_builtin; refine wpList_append_rd rfl (.tmp 28) (.tmp 29) rfl w5.heap.size w5.heap.size 0 0 32 c5 w5.heap.size [] m1 (some ⟨h5, 0, none⟩) rfl rfl HNIL.out HR5a.out hm1l.out.1 (fun e => by cases e) (by omega) (by simp) ?_)
  intro g6 cap6 w6 hown hgrow hat
  have HC6 := Lib.hid (below_of_only HA5.out hgrow (Nat.le_refl _)); have HO6 := Lib.hid hown; have HB6 := Lib.hid (below_of_only HB5a.out hgrow (by first | omega | exact Nat.le_trans (show w.heap.size ≤ w5.heap.size by omega) (HNIL.out.lt _ rfl).1))
  clear hown hgrow hat
  try simp only [Nat.zero_add, List.nil_append] at HO6
  have hs6 := HB6.out.size
  have HRb6 := Lib.hid (HRb.out.below HB6.out)
  have hw56 := HC6.out.size
  go_wp2_with (at_builtin; refine wpList_append_rd rfl (.tmp 30) (.tmp 31) rfl w5.heap.size g6 32 cap6 nb cb w.heap.size m1 b A2 rfl rfl HO6.out HRb6.out (HNb.out ()) HCb.out (by omega) (by omega) ?_)
  intro g7 cap7 w7 hown hgrow hat
  have HC7 := Lib.hid (below_of_only HC6.out hgrow (HO6.out.lt _ rfl).1); have HO7 := Lib.hid hown; have HB7 := Lib.hid (below_of_only HB6.out hgrow (by first | omega | exact Nat.le_trans (show w.heap.size ≤ w5.heap.size by omega) (HO6.out.lt _ rfl).1))
  clear hown hgrow hat
  have hs7 := HB7.out.size
  have hw57 := HC7.out.size
  have HBy7 := Lib.hid (byte_rd w7 2 2 rfl (by omega) (B := w7.heap.size + 1) (by omega))
  have HO7a := Lib.hid (own_below HO7.out ((Below.refl w7.heap.size w7).alloc (Nat.le_refl _) (.cells #[.int .u8 2] 5)) (Nat.le_refl _))
  have HB7a := Lib.hid (HB7.out.alloc hs7 (.cells #[.int .u8 2] 5))
  have HC7a := Lib.hid (HC7.out.alloc hw57 (.cells #[.int .u8 2] 5))
  go_wp2_with (at_builtin; refine wpList_append_rd rfl (.tmp 32) (.tmp 33) rfl w5.heap.size g7 (32 + nb) cap7 1 1 (w7.heap.size + 1) (m1 ++ b) [2] (some ⟨w7.heap.size, 0, none⟩) rfl rfl HO7a.out HBy7.out rfl (fun e => by cases e) (by omega) (by simp; omega) ?_)
  intro g8 cap8 w8 hown hgrow hat
  have HC8 := Lib.hid (below_of_only HC7a.out hgrow (HO7a.out.lt _ rfl).1); have HO8 := Lib.hid hown; have HB8 := Lib.hid (below_of_only HB7a.out hgrow (by first | omega | exact Nat.le_trans (show w.heap.size ≤ w5.heap.size by omega) (HO7a.out.lt _ rfl).1))
  clear hown hgrow hat
  have hcp8 := own_cap HO8.out
  unfold maxLen at hcp8
  have HX8 := Lib.hid (own_below HX5.out HC8.out (Nat.le_refl _))
  have HO58 := Lib.hid (own_below HO5.out HC8.out (Nat.le_refl _))
  have HT8 := Lib.hid (HT.out.below HB8.out h2)
  have HRa8 := Lib.hid ((HRa.out.below HB8.out).more HB8.out.size)
  have HR8 := Lib.hid (rd_of_own HO8.out (gt_append_lt hm1l.out.2 (gt_append_lt HRb.out.1 (gt_lt_of_mem (a := [2]) (by decide)))) (Nat.le_refl _))
  clear HX5 HO5 HO6 HO7 HO7a HC6 HC7 HC7a HC8 HBy7 HNIL HB5a HB6 HB7 HB7a HA5 HR5a HRb6
  go_wp2_with fail
  refine (mac_any A (some ⟨g8, 0, none⟩) a (m1 ++ (b ++ [2])) na ca (32 + nb + 1) cap8 w8 HT8.out HRa8.out (HNa.out ()) hla hxa (by omega) HR8.out (by rw [List.length_append, List.length_append, HNb.out (), hm1l.out.1]; show 32 + (nb + 1) = _; omega) hcp8.1 hcp8.2 (by omega)).mono ?_
  rintro e' w9 ⟨h9, c9, rfl, hown9, hB9⟩
  have hcp9 := own_cap hown9
  unfold maxLen at hcp9
  have HX9 := Lib.hid (own_below HX8.out hB9 (Nat.le_refl _)); have HO59 := Lib.hid (own_below HO58.out hB9 (Nat.le_refl _)); have HO9 := Lib.hid hown9; have HB9 := Lib.hid (HB8.out.trans (hB9.mono HB8.out.size))
  clear hown9 hB9 HX8 HO58 HO8 HR8 HT8 HRa8
  have HXE : Hid (Unit → expand a b 64 = m1 ++ mac a (m1 ++ (b ++ [2]))) := Lib.hid fun _ => by rw [expand_two, HM1.out ()]
  obtain ⟨m2, hm2⟩ : ∃ m2, mac a (m1 ++ (b ++ [2])) = m2 := ⟨_, rfl⟩
  rw [hm2] at HO9 HXE
  have hm2l : Hid (m2.length = 32 ∧ ∀ j, gt m2 j < 256) := Lib.hid (by rw [← hm2]; exact ⟨mac_len _ _, mac_lt _ _⟩)
  clear hm2 HM1
  obtain ⟨X, hX⟩ : ∃ X, expand a b 64 = X := ⟨_, rfl⟩
  rw [hX] at HX9 HXE
  have HME : Hid (Unit → X = m1 ++ m2) := HXE
  clear HXE hX
  go_wp2_with fail
  refine region_calm ?_
  refine wp_region_any (by kernel_rfl) ?_
  change wpAny _ _ _ _ _ _ _ (World.drew _)
  replace HX9 := Lib.hid HX9.out.drew; replace HO59 := Lib.hid HO59.out.drew; replace HO9 := Lib.hid HO9.out.drew; replace HB9 := Lib.hid HB9.out.drew
  generalize w9.drew = wd at *
  have hcx := Lib.hid (conv_own HX9.out)
  refine wpAny_of_held (S := fun w' => (convert 22 9 (.slice (some ⟨h1, 0, none⟩) 64 64)).run Tryd.prog w' = .ok (.string (txt X)) w') _ _ _ _ ?_
  refine wpAnyH_take (i := 0) (v := ?v0n1) rfl (by kernel_rfl) (by kernel_rfl) (by kernel_rfl) (fun _ _ _ h => h) (Or.inl ⟨by rfl, ?y0n1⟩) hcx.out ?r0n1
  case y0n1 => (intro w' hSw; clear hSw; go_simp; try with_reducible rfl)
  simp only [List.getElem_toArray, List.getElem_cons_succ, List.getElem_cons_zero, Act.put, List.setIfInBounds_toArray, List.set_cons_zero, List.set_cons_succ]
  refine wpAnyH_take (i := 1) (v := ?v1n2) rfl (by kernel_rfl) (by kernel_rfl) (by kernel_rfl) (fun _ _ _ h => h) (Or.inl ⟨by rfl, ?y1n2⟩) hcx.out ?r1n2
  case y1n2 => (intro w' hSw; clear hSw; go_simp; try with_reducible rfl)
  simp only [List.getElem_toArray, List.getElem_cons_succ, List.getElem_cons_zero, Act.put, List.setIfInBounds_toArray, List.set_cons_zero, List.set_cons_succ]
  refine wpAnyH_take (i := 2) (v := ?v2n3) rfl (by kernel_rfl) (by kernel_rfl) (by kernel_rfl) (fun _ _ _ h => h) (Or.inl ⟨by rfl, ?y2n3⟩) hcx.out ?r2n3
  case y2n3 => (intro w' hSw; clear hSw; go_simp; try with_reducible rfl)
  simp only [List.getElem_toArray, List.getElem_cons_succ, List.getElem_cons_zero, Act.put, List.setIfInBounds_toArray, List.set_cons_zero, List.set_cons_succ]
  refine wpAnyH_take (i := 3) (v := ?v3n4) rfl (by kernel_rfl) (by kernel_rfl) (by kernel_rfl) (fun _ _ _ h => h) (Or.inl ⟨by rfl, ?y3n4⟩) hcx.out ?r3n4
  case y3n4 => (intro w' hSw; have s1 := hSw; (try dsimp only at s1); clear hSw; go_simp; try with_reducible rfl)
  simp only [List.getElem_toArray, List.getElem_cons_succ, List.getElem_cons_zero, Act.put, List.setIfInBounds_toArray, List.set_cons_zero, List.set_cons_succ]
  refine wpAnyH_take (i := 5) (v := ?v5n5) rfl (by kernel_rfl) (by kernel_rfl) (by kernel_rfl) (fun _ _ _ h => h) (Or.inl ⟨by rfl, ?y5n5⟩) hcx.out ?r5n5
  case y5n5 => (intro w' hSw; clear hSw; go_simp; try with_reducible rfl)
  simp only [List.getElem_toArray, List.getElem_cons_succ, List.getElem_cons_zero, Act.put, List.setIfInBounds_toArray, List.set_cons_zero, List.set_cons_succ]
  refine wpAnyH_take (i := 7) (v := ?v7n6) rfl (by kernel_rfl) (by kernel_rfl) (by kernel_rfl) (fun _ _ _ h => h) (Or.inl ⟨by rfl, ?y7n6⟩) hcx.out ?r7n6
  case y7n6 => (intro w' hSw; clear hSw; go_simp; try with_reducible rfl)
  simp only [List.getElem_toArray, List.getElem_cons_succ, List.getElem_cons_zero, Act.put, List.setIfInBounds_toArray, List.set_cons_zero, List.set_cons_succ]
  have hsd := HB9.out.size
  have HNIL := Lib.hid (nil_own wd (base := wd.heap.size) (Nat.le_refl _))
  have HBda := Lib.hid (HB9.out.alloc hsd (.cells #[] 5))
  have HA9 := Lib.hid ((Below.refl wd.heap.size wd).alloc (Nat.le_refl _) (.cells #[] 5))
  refine wpAnyH_ready (rs := [4]) (by kernel_rfl) (by simp) ?_
  refine AllReadyH.cons rfl (fun K hK => ?_) AllReadyH.nil
  simp only [List.getElem_toArray, List.getElem_cons_succ, List.getElem_cons_zero]
  go_simp
  refine hK.out _ _ (conv_own (own_below HX9.out HA9.out (Nat.le_refl _))) (fun _ => ?_)
  clear hK K
  try simp only [List.getElem_toArray, List.getElem_cons_succ, List.getElem_cons_zero, Act.put, List.setIfInBounds_toArray, List.set_cons_zero, List.set_cons_succ]
  have HRm1 := Lib.hid ((rd_of_own HO59.out hm1l.out.2 (Nat.le_refl _)).below HA9.out)
  refine wpAnyH_ready (rs := [6]) (by kernel_rfl) (by simp) ?_
  refine AllReadyH.cons rfl (fun K hK => ?_) AllReadyH.nil
  simp only [List.getElem_toArray, List.getElem_cons_succ, List.getElem_cons_zero]
  refine step_append_rd ?hw10 (.tmp 40) (.tmp 41) ?ho10 wd.heap.size wd.heap.size 0 0 32 c5 wd.heap.size [] m1 (some ⟨h5, 0, none⟩) ?hs10 ?hx10 HNIL.out HRm1.out hm1l.out.1 (fun e => by cases e) (by omega) (by simp) ?hk10
  case hw10 => rfl
  case ho10 => rfl
  case hs10 => rfl
  case hx10 => rfl
  case hk10 =>
  intro g10 cap10 w10 hown hgrow hat
  have HC10 := Lib.hid (below_of_only HA9.out hgrow (by first | exact Nat.le_refl _ | exact (HNIL.out.lt _ rfl).1))
  have HO10 := Lib.hid hown
  clear hown hgrow hat
  refine hK.out _ _ (conv_own (own_below HX9.out HC10.out (Nat.le_refl _))) (fun _ => ?_)
  clear hK K
  try simp only [List.getElem_toArray, List.getElem_cons_succ, List.getElem_cons_zero, Act.put, List.setIfInBounds_toArray, List.set_cons_zero, List.set_cons_succ]
  try simp only [Nat.zero_add, List.nil_append] at HO10
  have hs10 := HC10.out.size
  have HRm2 := Lib.hid ((rd_of_own HO9.out hm2l.out.2 (Nat.le_refl _)).below HC10.out)
  refine wpAnyH_ready (rs := [8]) (by kernel_rfl) (by simp) ?_
  refine AllReadyH.cons rfl (fun K hK => ?_) AllReadyH.nil
  simp only [List.getElem_toArray, List.getElem_cons_succ, List.getElem_cons_zero]
  refine step_append_rd ?hw11 (.tmp 42) (.tmp 43) ?ho11 wd.heap.size g10 32 cap10 32 c9 wd.heap.size m1 m2 (some ⟨h9, 0, none⟩) ?hs11 ?hx11 HO10.out HRm2.out hm2l.out.1 (fun e => by cases e) (by omega) hs10 ?hk11
  case hw11 => rfl
  case ho11 => rfl
  case hs11 => rfl
  case hx11 => rfl
  case hk11 =>
  intro g11 cap11 w11 hown hgrow hat
  have HC11 := Lib.hid (below_of_only HC10.out hgrow (by first | exact Nat.le_refl _ | exact (HO10.out.lt _ rfl).1))
  have HO11 := Lib.hid hown
  clear hown hgrow hat
  refine hK.out _ _ (conv_own (own_below HX9.out HC11.out (Nat.le_refl _))) (fun _ => ?_)
  clear hK K
  try simp only [List.getElem_toArray, List.getElem_cons_succ, List.getElem_cons_zero, Act.put, List.setIfInBounds_toArray, List.set_cons_zero, List.set_cons_succ]
  have hc2 := conv_own HO11.out
  rw [← HME.out ()] at hc2
  have HB11 := Lib.hid (HB9.out.trans (HC11.out.mono hsd))
  have HX11 := Lib.hid (own_below HX9.out HC11.out (Nat.le_refl _))
  have HS11 := Lib.hid (And.intro (conv_own HX11.out) hc2)
  clear hc2
  have hlt11 := HX11.out.lt _ rfl
  have HO11b := HO11
  refine wpAnyH_more (S' := fun w' => (convert 22 9 (.slice (some ⟨h1, 0, none⟩) 64 64)).run Tryd.prog w' = .ok (.string (txt X)) w' ∧ (convert 22 9 (.slice (some ⟨g11, 0, none⟩) (32 + 32) cap11)).run Tryd.prog w' = .ok (.string (txt X)) w') (fun _ h => h.1) _ _ _ _ ?_
  refine wpAnyH_take (i := 9) (v := ?v9n7) rfl (by kernel_rfl) (by kernel_rfl) (by kernel_rfl) (fun _ _ _ h => h) (Or.inl ⟨by rfl, ?y9n7⟩) HS11.out ?r9n7
  case y9n7 => (intro w' hSw; obtain ⟨s1, s2⟩ := hSw; go_simp; try with_reducible rfl)
  simp only [List.getElem_toArray, List.getElem_cons_succ, List.getElem_cons_zero, Act.put, List.setIfInBounds_toArray, List.set_cons_zero, List.set_cons_succ]
  refine wpAnyH_take (i := 10) (v := ?v10n8) rfl (by kernel_rfl) (by kernel_rfl) (by kernel_rfl) (fun _ _ _ h => h) (Or.inl ⟨by rfl, ?y10n8⟩) HS11.out ?r10n8
  case y10n8 => (intro w' hSw; clear hSw; go_simp; try with_reducible rfl)
  simp only [List.getElem_toArray, List.getElem_cons_succ, List.getElem_cons_zero, Act.put, List.setIfInBounds_toArray, List.set_cons_zero, List.set_cons_succ]
  refine wpAnyH_take (i := 11) (v := ?v11n9) rfl (by kernel_rfl) (by kernel_rfl) (by kernel_rfl) (fun _ _ _ h => h) (Or.inl ⟨by rfl, ?y11n9⟩) HS11.out ?r11n9
  case y11n9 => (intro w' hSw; clear hSw; go_simp; try with_reducible rfl)
  simp only [List.getElem_toArray, List.getElem_cons_succ, List.getElem_cons_zero, Act.put, List.setIfInBounds_toArray, List.set_cons_zero, List.set_cons_succ]
  refine wpAnyH_take (i := 12) (v := ?v12n10) rfl (by kernel_rfl) (by kernel_rfl) (by kernel_rfl) (fun _ _ _ h => h) (Or.inl ⟨by rfl, ?y12n10⟩) HS11.out ?r12n10
  case y12n10 => (intro w' hSw; clear hSw; go_simp; try with_reducible rfl)
  simp only [List.getElem_toArray, List.getElem_cons_succ, List.getElem_cons_zero, Act.put, List.setIfInBounds_toArray, List.set_cons_zero, List.set_cons_succ]
  refine wpAnyH_take (i := 13) (v := ?v13n11) rfl (by kernel_rfl) (by kernel_rfl) (by kernel_rfl) (fun _ _ _ h => h) (Or.inl ⟨by rfl, ?y13n11⟩) HS11.out ?r13n11
  case y13n11 => (intro w' hSw; clear hSw; go_simp; try with_reducible rfl)
  simp only [List.getElem_toArray, List.getElem_cons_succ, List.getElem_cons_zero, Act.put, List.setIfInBounds_toArray, List.set_cons_zero, List.set_cons_succ]
  refine wpAnyH_take (i := 14) (v := ?v14n12) rfl (by kernel_rfl) (by kernel_rfl) (by kernel_rfl) (fun _ _ _ h => h) (Or.inl ⟨by rfl, ?y14n12⟩) HS11.out ?r14n12
  case y14n12 => (intro w' hSw; clear hSw; go_simp; try with_reducible rfl)
  simp only [List.getElem_toArray, List.getElem_cons_succ, List.getElem_cons_zero, Act.put, List.setIfInBounds_toArray, List.set_cons_zero, List.set_cons_succ]
  refine wpAnyH_take (i := 17) (v := ?v17n13) rfl (by kernel_rfl) (by kernel_rfl) (by kernel_rfl) (fun _ _ _ h => h) (Or.inl ⟨by rfl, ?y17n13⟩) HS11.out ?r17n13
  case y17n13 => (intro w' hSw; clear hSw; go_simp; try with_reducible rfl)
  simp only [List.getElem_toArray, List.getElem_cons_succ, List.getElem_cons_zero, Act.put, List.setIfInBounds_toArray, List.set_cons_zero, List.set_cons_succ]
  refine wpAnyH_take (i := 18) (v := ?v18n14) rfl (by kernel_rfl) (by kernel_rfl) (by kernel_rfl) (fun _ _ _ h => h) (Or.inl ⟨by rfl, ?y18n14⟩) HS11.out ?r18n14
  case y18n14 => (intro w' hSw; clear hSw; go_simp; try with_reducible rfl)
  simp only [List.getElem_toArray, List.getElem_cons_succ, List.getElem_cons_zero, Act.put, List.setIfInBounds_toArray, List.set_cons_zero, List.set_cons_succ]
  have HRa11 := Lib.hid ((HRa.out.below HB11.out).more HB11.out.size)
  have HRb11 := Lib.hid ((HRb.out.below HB11.out).more HB11.out.size)
  have HT11 := Lib.hid (HT.out.below HB11.out h2)
  refine wpAnyH_ready (rs := [15]) (by kernel_rfl) (by simp) ?_
  refine AllReadyH.cons rfl (fun K hK => ?_) AllReadyH.nil
  simp only [List.getElem_toArray, List.getElem_cons_succ, List.getElem_cons_zero]
  go_simp
  refine (extract_any A A2 a b na ca nb cb w11 HT11.out HRa11.out (HNa.out ()) hla hxa (by omega) HRb11.out (HNb.out ()) hlb hxb (by omega)).mono ?_
  rintro e' w12 ⟨h12, c12, rfl, hown12, hB12⟩
  have HC12 := Lib.hid hB12; have HO12 := Lib.hid hown12; have HB12 := Lib.hid (HB11.out.trans (hB12.mono HB11.out.size))
  clear hown12 hB12
  have HS12 := Lib.hid (And.intro (conv_own (own_below HX11.out HC12.out (Nat.le_refl _))) (by have := conv_own (own_below HO11.out HC12.out (Nat.le_refl _)); rwa [← HME.out ()] at this))
  refine hK.out _ _ HS12.out (fun _ => ?_)
  clear hK K
  try simp only [List.getElem_toArray, List.getElem_cons_succ, List.getElem_cons_zero, Act.put, List.setIfInBounds_toArray, List.set_cons_zero, List.set_cons_succ]
  obtain ⟨M, hM⟩ : ∃ M, mac a b = M := ⟨_, rfl⟩
  rw [hM] at HO12
  have HMM := Lib.hid (fun _ : Unit => hM)
  clear hM
  have HS13 := Lib.hid (conv_own HO12.out)
  have HX12 := Lib.hid (own_below HX11.out HC12.out (Nat.le_refl _))
  have HO112 := Lib.hid (own_below HO11.out HC12.out (Nat.le_refl _))
  refine wpAnyH_more (S' := fun w' => ((convert 22 9 (.slice (some ⟨h1, 0, none⟩) 64 64)).run Tryd.prog w' = .ok (.string (txt X)) w' ∧ (convert 22 9 (.slice (some ⟨g11, 0, none⟩) (32 + 32) cap11)).run Tryd.prog w' = .ok (.string (txt X)) w') ∧ (convert 22 9 (.slice (some ⟨h12, 0, none⟩) 32 c12)).run Tryd.prog w' = .ok (.string (txt M)) w') (fun _ h => h.1) _ _ _ _ ?_
  refine wpAnyH_take (i := 16) (v := ?v16n15) rfl (by kernel_rfl) (by kernel_rfl) (by kernel_rfl) (fun _ _ _ h => h) (Or.inl ⟨by rfl, ?y16n15⟩) ⟨HS12.out, HS13.out⟩ ?r16n15
  case y16n15 => (intro w' hSw; have s1 := hSw.2; (try dsimp only at s1); clear hSw; go_simp; try with_reducible rfl)
  simp only [List.getElem_toArray, List.getElem_cons_succ, List.getElem_cons_zero, Act.put, List.setIfInBounds_toArray, List.set_cons_zero, List.set_cons_succ]
  have HRa12 := Lib.hid ((HRa.out.below HB12.out).more HB12.out.size)
  have HRb12 := Lib.hid ((HRb.out.below HB12.out).more HB12.out.size)
  have HT12 := Lib.hid (HT.out.below HB12.out h2)
  refine wpAnyH_ready (rs := [19]) (by kernel_rfl) (by simp) ?_
  refine AllReadyH.cons rfl (fun K hK => ?_) AllReadyH.nil
  simp only [List.getElem_toArray, List.getElem_cons_succ, List.getElem_cons_zero]
  go_simp
  refine (mac_any A A2 a b na ca nb cb w12 HT12.out HRa12.out (HNa.out ()) hla hxa (by omega) HRb12.out (HNb.out ()) hlb hxb (by omega)).mono ?_
  rintro e' w14 ⟨h14, c14, rfl, hown14, hB14⟩
  rw [HMM.out ()] at hown14
  have HC14 := Lib.hid hB14; have HO14 := Lib.hid hown14; have HB14 := Lib.hid (HB12.out.trans (hB14.mono HB12.out.size))
  clear hown14 hB14
  have HS14 := Lib.hid (And.intro (And.intro (conv_own (own_below HX12.out HC14.out (Nat.le_refl _))) (by have := conv_own (own_below HO112.out HC14.out (Nat.le_refl _)); rwa [← HME.out ()] at this)) (conv_own (own_below HO12.out HC14.out (Nat.le_refl _))))
  refine hK.out _ _ HS14.out (fun _ => ?_)
  clear hK K
  try simp only [List.getElem_toArray, List.getElem_cons_succ, List.getElem_cons_zero, Act.put, List.setIfInBounds_toArray, List.set_cons_zero, List.set_cons_succ]
  have HS15 := Lib.hid (conv_own HO14.out)
  refine wpAnyH_more (S' := fun w' => (((convert 22 9 (.slice (some ⟨h1, 0, none⟩) 64 64)).run Tryd.prog w' = .ok (.string (txt X)) w' ∧ (convert 22 9 (.slice (some ⟨g11, 0, none⟩) (32 + 32) cap11)).run Tryd.prog w' = .ok (.string (txt X)) w') ∧ (convert 22 9 (.slice (some ⟨h12, 0, none⟩) 32 c12)).run Tryd.prog w' = .ok (.string (txt M)) w') ∧ (convert 22 9 (.slice (some ⟨h14, 0, none⟩) 32 c14)).run Tryd.prog w' = .ok (.string (txt M)) w') (fun _ h => h.1) _ _ _ _ ?_
  refine wpAnyH_take (i := 20) (v := ?v20n16) rfl (by kernel_rfl) (by kernel_rfl) (by kernel_rfl) (fun _ _ _ h => h) (Or.inl ⟨by rfl, ?y20n16⟩) ⟨HS14.out, HS15.out⟩ ?r20n16
  case y20n16 => (intro w' hSw; have s1 := hSw.2; (try dsimp only at s1); clear hSw; go_simp; try with_reducible rfl)
  simp only [List.getElem_toArray, List.getElem_cons_succ, List.getElem_cons_zero, Act.put, List.setIfInBounds_toArray, List.set_cons_zero, List.set_cons_succ]
  refine wpAnyH_take (i := 21) (v := ?v21n17) rfl (by kernel_rfl) (by kernel_rfl) (by kernel_rfl) (fun _ _ _ h => h) (Or.inl ⟨by rfl, ?y21n17⟩) ⟨HS14.out, HS15.out⟩ ?r21n17
  case y21n17 => (intro w' hSw; clear hSw; go_simp; try with_reducible rfl)
  simp only [List.getElem_toArray, List.getElem_cons_succ, List.getElem_cons_zero, Act.put, List.setIfInBounds_toArray, List.set_cons_zero, List.set_cons_succ]
  refine wpAnyH_take (i := 22) (v := ?v22n18) rfl (by kernel_rfl) (by kernel_rfl) (by kernel_rfl) (fun _ _ _ h => h) (Or.inl ⟨by rfl, ?y22n18⟩) ⟨HS14.out, HS15.out⟩ ?r22n18
  case y22n18 => (intro w' hSw; clear hSw; go_simp; try with_reducible rfl)
  simp only [List.getElem_toArray, List.getElem_cons_succ, List.getElem_cons_zero, Act.put, List.setIfInBounds_toArray, List.set_cons_zero, List.set_cons_succ]
  refine wpAnyH_take (i := 23) (v := ?v23n19) rfl (by kernel_rfl) (by kernel_rfl) (by kernel_rfl) (fun _ _ _ h => h) (Or.inl ⟨by rfl, ?y23n19⟩) ⟨HS14.out, HS15.out⟩ ?r23n19
  case y23n19 => (intro w' hSw; clear hSw; go_simp; try with_reducible rfl)
  simp only [List.getElem_toArray, List.getElem_cons_succ, List.getElem_cons_zero, Act.put, List.setIfInBounds_toArray, List.set_cons_zero, List.set_cons_succ]
  refine wpAnyH_done (by kernel_rfl) ?_ _
  change Exit.then _ _ Exit.normal _ _
  go_wp2
  go_ret
  exact ⟨rfl, HB14.out⟩

set_option maxHeartbeats 1000000 in
theorem parts_great (A A2 : Option Addr) (na nb ca cb : Nat) (w : World) (hT : Tables w) (h : 17000 < na ∨ 17000 < nb) :
    Calls Tryd.prog 8 #[.slice A na ca, .slice A2 nb cb] w fun e w' => e = .returned (.bool true) ∧ Below w.heap.size w w' := by
  have HT := Lib.hid hT; clear hT
  go_enter Tryd.func8, Tryd.ntmps8
  go_wp2_with fail
  refine (head_any _ HT.out).mono ?_
  rintro e' w1 ⟨rfl, hB1⟩
  have HB1 := Lib.hid hB1; clear hB1
  by_cases ha : 17000 < na
  · go_wp2_with fail
    refine (great_yes _ _ _ _ ha).mono ?_
    rintro e' w2 ⟨rfl, rfl⟩
    go_wp2
    go_ret
    exact ⟨rfl, HB1.out⟩
  · go_wp2_with fail
    refine (great_no _ _ _ _ (by omega)).mono ?_
    rintro e' w2 ⟨rfl, rfl⟩
    go_wp2_with fail
    refine (great_yes _ _ _ _ (by omega)).mono ?_
    rintro e' w2 ⟨rfl, rfl⟩
    go_wp2
    go_ret
    exact ⟨rfl, HB1.out⟩

theorem hkdfParts_walk (a0 : Option Addr) (len0 cap0 : Nat) (z0 : List Int) (a1 : Option Addr) (len1 cap1 : Nat) (z1 : List Int) (w : World) (hT : Tables w) (w0 : IsRow .u8 w a0 len0 cap0 z0) (w1 : IsRow .u8 w a1 len1 cap1 z1) :
    Calls Tryd.prog 8 #[.slice a0 len0 cap0, .slice a1 len1 cap1] w fun e w' => e = .returned (.bool true) ∧ Below w.heap.size w w' := by
  obtain ⟨r0, n0, m0, c0, x0⟩ := rd_of_row w0
  obtain ⟨r1, n1, m1, c1, x1⟩ := rd_of_row w1
  by_cases h : 17000 < len0 ∨ 17000 < len1
  · exact parts_great a0 a1 len0 len1 cap0 cap1 w hT h
  · exact parts_walk a0 a1 _ _ len0 len1 cap0 cap1 w hT r0 r1 n0 n1 m0 m1 c0 c1 x1 (by omega) (by omega)

end Go.Proofs.YtfcnhendebjjeaaDoor.Sha
