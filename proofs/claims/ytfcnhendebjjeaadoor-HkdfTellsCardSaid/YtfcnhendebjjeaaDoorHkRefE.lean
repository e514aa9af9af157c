/- The document's own: Extract, Expand. -/
import Derived.Test.YtfcnhendebjjeaaDoorHkRefM
namespace Go.Proofs.YtfcnhendebjjeaaDoor.Sha
set_option linter.all false
open Go.RowKit Iter
attribute [local go_sem ↓] Go.wp_at_zero Go.wp_at_succ

set_option maxHeartbeats 1000000 in
theorem rextract_any (A A2 : Option Addr) (key t : List Nat) (n c n2 c2 : Nat) (w : World) (hR : Rd w w.heap.size A key) (hn : key.length = n) (hc : A = none → c = 0) (hm : n ≤ 20000)
    (hR2 : Rd w w.heap.size A2 t) (hn2 : t.length = n2) (hc2 : A2 = none → c2 = 0) (hm2 : n2 ≤ 20000) :
    Calls Tryd.prog 16 #[.slice A n c, .slice A2 n2 c2] w (Summed w (mac key t)) := by
  have HR := Lib.hid hR; have HN := Lib.hid (fun _ : Unit => hn); have HC := Lib.hid hc; have HR2 := Lib.hid hR2; have HN2 := Lib.hid (fun _ : Unit => hn2); have HC2 := Lib.hid hc2
  clear hR hn hc hR2 hn2 hc2
  go_enter Tryd.func16, Tryd.ntmps16
  go_wp2_with fail
  refine (rmac_any A A2 key t n c n2 c2 w HR.out (HN.out ()) HC.out hm HR2.out (HN2.out ()) HC2.out hm2).mono ?_
  rintro e' w1 ⟨h1, c1, rfl, hown, hB⟩
  have HO := Lib.hid hown; have HB := Lib.hid hB; clear hown hB
  go_wp2
  go_ret
  exact ⟨h1, c1, rfl, HO.out, HB.out⟩

set_option maxHeartbeats 1000000 in
theorem rexpand_bad (A A2 : Option Addr) (n c n2 c2 : Nat) (x : Int) (w : World) (hx : x < 0 ∨ 8160 < x) :
    Calls Tryd.prog 17 #[.slice A n c, .slice A2 n2 c2, .int .i64 x] w fun e w' => e = .returned (.slice none 0 0) ∧ w = w' := by
  go_enter Tryd.func17, Tryd.ntmps17
  by_cases h1 : x < 0
  · go_wp2
    go_ret
    exact ⟨rfl, rfl⟩
  · have h2 : 8160 < x := by omega
    go_wp2
    go_ret
    exact ⟨rfl, rfl⟩

set_option maxHeartbeats 4000000 in
set_option maxRecDepth 100000 in
theorem rexpand_any (A A2 : Option Addr) (key info : List Nat) (n c n2 c2 N : Nat) (w : World) (hR : Rd w w.heap.size A key) (hn : key.length = n) (hc : A = none → c = 0) (hm : n ≤ 20000)
    (hR2 : Rd w w.heap.size A2 info) (hn2 : info.length = n2) (hc2 : A2 = none → c2 = 0) (hm2 : n2 ≤ 19000) (hN : N ≤ 8160) :
    Calls Tryd.prog 17 #[.slice A n c, .slice A2 n2 c2, .int .i64 N] w fun e w' => ∃ v, e = .returned v ∧ w'.ownsRow w.heap.size 5 1 v N (bcells (expand key info N)) ∧ Below w.heap.size w w' := by
  have HR := Lib.hid hR; have HN := Lib.hid (fun _ : Unit => hn); have HC := Lib.hid hc; have HR2 := Lib.hid hR2; have HN2 := Lib.hid (fun _ : Unit => hn2); have HC2 := Lib.hid hc2
  clear hR hn hc hR2 hn2 hc2
  have y0 : ¬ (N : Int) < 0 := by omega
  have y1 : ¬ (8160 : Int) < (N : Int) := by omega
  obtain ⟨X, hX⟩ : ∃ X, expand key info N = X := ⟨_, rfl⟩
  rw [hX]
  obtain ⟨B, hB⟩ : ∃ B, blockK key = B := ⟨_, rfl⟩
  have HM : Hid (∀ x, mac key x = tag B x) := Lib.hid (fun x => by rw [← hB]; rfl)
  have HXE : Hid (Unit → (upto B info 255).take N = X) := Lib.hid (fun _ => by rw [← hX, ← hB]; rfl)
  clear hX hB
  go_enter Tryd.func17, Tryd.ntmps17
  go_wp2_with fail
  go_loopw [7, 8, 9] (fun v7 v8 i W => ∃ (k Lo m8 c7 c8 q : Nat) (A7 A8 : Option Addr), k ≤ 255 ∧ Lo = 32 * k ∧ m8 ≤ 32 ∧ q = k + 1 ∧ i = .int .i64 q ∧ v7 = .slice A7 Lo c7 ∧ v8 = .slice A8 m8 c8 ∧ Hid (W.ownsRow w.heap.size 5 1 (.slice A7 Lo c7) Lo (bcells (upto B info k))) ∧ Hid (W.ownsRow w.heap.size 5 1 (.slice A8 m8 c8) m8 (bcells (piece B info k))) ∧ Hid (Below w.heap.size w W)) (fun _ _ i _ => 257 - (intOf i).toNat)
  case atStart => exact ⟨0, 0, 0, 0, 0, 1, none, none, by omega, rfl, by omega, rfl, rfl, rfl, rfl, Lib.hid ⟨rfl, .inl ⟨rfl, rfl⟩⟩, Lib.hid ⟨rfl, .inl ⟨rfl, rfl⟩⟩, Lib.hid (Below.refl _ _)⟩
  case round =>
    obtain ⟨k, Lo, m8, c7, c8, q, A7, A8, hk, hLo, hm8, hq, rfl, rfl, rfl, HV7, HV8, HB⟩ := hrel
    have HLO := Lib.hid (fun _ : Unit => hLo); have HQ := Lib.hid (fun _ : Unit => hq)
    by_cases hg : Lo < N
    · have yg : (Lo : Int) < (N : Int) := by omega
      have hk2 : k < 255 := by omega
      have hq2 : q ≤ 255 := by omega
      have hLo2 : Lo ≤ 8160 := by omega
      clear hLo hq
      have x2 : IntKind.u8.wrap (q : Int) = (q : Int) := by rw [IntKind.wrap_u8]; omega
      obtain ⟨A8', c8', hv8, hcn8, -, -, hrd8, hlen8, -⟩ := own_slice HV8.out (piece_lt B info k)
      injection hv8 with e1 e2 e3
      subst e1 e3
      clear e2
      have HLN8 := Lib.hid (fun _ : Unit => hlen8); have HCN8 := Lib.hid hcn8
      have HPL := Lib.hid (piece_lt B info k)
      obtain ⟨P0, hP0⟩ : ∃ P0, piece B info k = P0 := ⟨_, rfl⟩
      rw [hP0] at HV8 HLN8 HPL hrd8
      have HP0 := Lib.hid (fun _ : Unit => hP0)
      have HNIL := Lib.hid (nil_own wr (base := wr.heap.size) (Nat.le_refl _))
      have HA := Lib.hid ((Below.refl wr.heap.size wr).alloc (Nat.le_refl _) (.cells #[] 5))
      have HRD8 := Lib.hid (hrd8.below HA.out)
      clear hP0 hrd8 hlen8 hcn8
      go_wp2_with (at_builtin; refine wpList_append_loc rfl (.tmp 23) (.tmp 24) rfl wr.heap.size 0 m8 c8 wr.heap.size (.slice (some ⟨wr.heap.size, 0, none⟩) 0 0) [] P0 A8 rfl rfl HNIL.out HRD8.out (HLN8.out ()) HCN8.out (by omega) (by simp) ?_)
      intro v5 w5 h5 g5 l5
      try simp only [Nat.zero_add, List.nil_append] at h5
      have HO5 := Lib.hid h5
      have HB5 := Lib.hid (under_own HA.out HNIL.out (Nat.le_refl _) g5 (by simp))
      clear h5 g5 l5 HNIL HA HRD8
      obtain ⟨A5, c5, rfl, -, -, -, -, -, -⟩ := own_slice HO5.out HPL.out
      have HC5 := Lib.hid (HB.out.trans (HB5.out.mono HB.out.size))
      have HR25 := Lib.hid (HR2.out.below HC5.out)
      go_wp2_with (at_builtin; refine wpList_append_loc rfl (.tmp 25) (.tmp 26) rfl wr.heap.size m8 n2 c2 w.heap.size (.slice A5 m8 c5) P0 info A2 rfl rfl HO5.out HR25.out (HN2.out ()) HC2.out (by omega) HB5.out.size ?_)
      intro v6 w6 h6 g6 l6
      have HB6 := Lib.hid (under_own HB5.out HO5.out (Nat.le_refl _) g6 HB5.out.size)
      have HZL := Lib.hid (gt_append_lt HPL.out HR2.out.1)
      obtain ⟨Z, hZ⟩ : ∃ Z, P0 ++ info = Z := ⟨_, rfl⟩
      rw [hZ] at h6 HZL
      have HZ := Lib.hid (fun _ : Unit => hZ)
      have HO6 := Lib.hid h6
      obtain ⟨m6, hm6⟩ : ∃ m6, m8 + n2 = m6 := ⟨_, rfl⟩
      rw [hm6] at HO6
      have hm6' : m6 ≤ 19032 := by omega
      clear h6 g6 l6 hZ HR25 HC5 HO5 hm6
      obtain ⟨A6, c6, rfl, -, -, -, -, -, -⟩ := own_slice HO6.out HZL.out
      have HBy := Lib.hid (byte_rd w6 (q : Int) q rfl (by omega) (B := w6.heap.size + 1) (by omega))
      have HA := Lib.hid ((Below.refl w6.heap.size w6).alloc (Nat.le_refl _) (.cells #[.int .u8 (q : Int)] 5))
      have HO6a := Lib.hid (own_gen HO6.out HA.out)
      have HB6a := Lib.hid (HB6.out.alloc HB6.out.size (.cells #[.int .u8 (q : Int)] 5))
      go_wp2_with (at_builtin; refine wpList_append_loc rfl (.tmp 27) (.tmp 30) rfl wr.heap.size m6 1 1 (w6.heap.size + 1) (.slice A6 m6 c6) Z [q] (some ⟨w6.heap.size, 0, none⟩) rfl rfl HO6a.out HBy.out rfl (fun e => by cases e) (by omega) (by have := HB6.out.size; simp; omega) ?_)
      intro v9 w9 h9 g9 l9
      have HB9 := Lib.hid (under_own HB6a.out HO6a.out (Nat.le_refl _) g9 (by have := HB6.out.size; simp; omega))
      have HTL := Lib.hid (gt_append_lt HZL.out HBy.out.1)
      have HTE : Hid (Unit → mac key (Z ++ [q]) = piece B info (k + 1)) := Lib.hid fun _ => by
        rw [HM.out, ← HZ.out (), ← HP0.out (), List.append_assoc, HQ.out ()]; rfl
      obtain ⟨T, hT⟩ : ∃ T, Z ++ [q] = T := ⟨_, rfl⟩
      rw [hT] at h9 HTL HTE
      have HO9 := Lib.hid h9
      clear h9 g9 l9 hT HBy HA HO6a HB6a HO6 HB6
      obtain ⟨A9, c9, rfl, hcn9, -, -, hrd9, hlen9, -⟩ := own_slice HO9.out HTL.out
      have HRD9 := Lib.hid hrd9; have HLN9 := Lib.hid (fun _ : Unit => hlen9); have HCN9 := Lib.hid hcn9
      clear hrd9 hlen9 hcn9
      have HC9 := Lib.hid (HB.out.trans (HB9.out.mono HB.out.size))
      have HR9 := Lib.hid ((HR.out.below HC9.out).more HC9.out.size)
      go_wp2_with fail
      refine (rmac_any A A9 key T n c (m6 + 1) c9 w9 HR9.out (HN.out ()) HC.out hm HRD9.out (HLN9.out ()) HCN9.out (by omega)).mono ?_
      rintro e' w10 ⟨h10, c10, rfl, hown10, hB10⟩
      rw [HTE.out ()] at hown10
      have HPL10 := Lib.hid (piece_lt B info (k + 1))
      have HPN10 := Lib.hid (piece_len B info k)
      have HUP : Hid (Unit → upto B info k ++ piece B info (k + 1) = upto B info (k + 1)) := Lib.hid fun _ => rfl
      obtain ⟨P, hP⟩ : ∃ P, piece B info (k + 1) = P := ⟨_, rfl⟩
      have HP := Lib.hid (fun _ : Unit => hP)
      rw [hP] at hown10 HPL10 HPN10 HUP
      have HO10 := Lib.hid hown10
      have HB10 := Lib.hid (HB9.out.trans (hB10.mono HB9.out.size))
      have HV10 := Lib.hid (own_gen HV7.out HB10.out)
      have HC10 := Lib.hid (HB.out.trans (HB10.out.mono HB.out.size))
      have HRD10 := Lib.hid (rd_of_own HO10.out HPL10.out (Nat.le_refl _))
      clear hown10 hB10 hP HRD9 HLN9 HCN9 HR9 HO9
      go_wp2_with (at_builtin; refine wpList_append_loc rfl (.tmp 33) (.tmp 34) rfl w.heap.size Lo 32 c10 w10.heap.size (.slice A7 Lo c7) (upto B info k) P (some ⟨h10, 0, none⟩) rfl rfl HV10.out HRD10.out HPN10.out (fun e => by cases e) (by omega) HC10.out.size ?_)
      intro v11 w11 h11 g11 l11
      rw [HUP.out ()] at h11
      have HV11 := Lib.hid h11
      have HC11 := Lib.hid (under_own HC10.out HV10.out (Nat.le_refl _) g11 HC10.out.size)
      have HV8' : Hid (w11.ownsRow w.heap.size 5 1 (.slice (some ⟨h10, 0, none⟩) 32 c10) 32 (bcells (piece B info (k + 1)))) := Lib.hid (by
        rw [HP.out ()]
        refine own_lower (own_other HO10.out g11 fun g e e' => ?_) HC9.out.size
        have a1 := (own_lt HO10.out e).1
        have a2 := (own_lt HV7.out e').2
        have a3 := HB9.out.size
        omega)
      clear h11 g11 l11 HRD10 HV10 HO10 HUP
      obtain ⟨A11, c11, rfl, -, -, -, -, -, -⟩ := own_slice HV11.out (upto_lt B info (k + 1))
      go_wp2
      go_roundw
      case rel => exact ⟨k + 1, Lo + 32, 32, c11, c10, q + 1, A11, some ⟨h10, 0, none⟩, by omega, by have := HLO.out (); omega, by omega, by have := HQ.out (); omega, by go_num, rfl, rfl, HV11, HV8', HC11⟩
      case measure => simp [intOf]; omega
    · have yg : ¬ (Lo : Int) < (N : Int) := by omega
      have HXN : Hid (Unit → (upto B info k).take N = X) := Lib.hid fun _ => by rw [← HXE.out (), expand_take hk (by omega)]
      obtain ⟨A7', c7', hv7, hcn7, hnc7, hcm7, hrd7, hlen7, -⟩ := own_slice HV7.out (upto_lt B info k)
      injection hv7 with e1 e2 e3
      subst e1 e3
      clear e2 hLo hq
      have HRU := Lib.hid (hrd7.upto N)
      have HLU : Hid (((upto B info k).take N).length = N) := Lib.hid (by rw [List.length_take, hlen7]; omega)
      have HXL := Lib.hid (take_lt (upto_lt B info k) N)
      rw [HXN.out ()] at HRU HLU HXL
      have HCN7 := Lib.hid hcn7
      have HNIL := Lib.hid (nil_own wr (base := w.heap.size) HB.out.size)
      have HA := Lib.hid (HB.out.alloc HB.out.size (.cells #[] 5))
      have HRA := Lib.hid (HRU.out.below ((Below.refl wr.heap.size wr).alloc (Nat.le_refl _) (.cells #[] 5)))
      clear hcn7 hrd7 hlen7 HRU
      have yc : (N : Int) ≤ (c7 : Int) := by omega
      have yn : (0 : Int) ≤ (N : Int) := by omega
      cases A7 with
      | none =>
        have hc0 : c7 = 0 := HCN7.out rfl
        have hN0 : N = 0 := by omega
        have hL0 : Lo = 0 := by omega
        clear HCN7
        subst hc0 hN0 hL0
        go_wp2_with (at_builtin; refine wpList_append_loc rfl (.tmp 36) (.tmp 39) rfl w.heap.size 0 0 0 wr.heap.size (.slice (some ⟨wr.heap.size, 0, none⟩) 0 0) [] X none rfl rfl HNIL.out HRA.out HLU.out (fun _ => rfl) (by omega) (by have := HB.out.size; simp; omega) ?_)
        intro v12 w12 h12 g12 l12
        try simp only [Nat.zero_add, List.nil_append] at h12
        have HO12 := Lib.hid h12
        have HC12 := Lib.hid (under_own HA.out HNIL.out (Nat.le_refl _) g12 (by have := HB.out.size; simp; omega))
        clear h12 g12 l12
        obtain ⟨A12, c12, rfl, -, -, -, -, -, -⟩ := own_slice HO12.out HXL.out
        go_wp2
        go_ret
        exact ⟨_, rfl, HO12.out, HC12.out⟩
      | some ad =>
        go_wp2_with (at_builtin; refine wpList_append_loc rfl (.tmp 36) (.tmp 39) rfl w.heap.size 0 N c7 wr.heap.size (.slice (some ⟨wr.heap.size, 0, none⟩) 0 0) [] X (some ad) rfl rfl HNIL.out HRA.out HLU.out (fun e => by cases e) (by omega) (by have := HB.out.size; simp; omega) ?_)
        intro v12 w12 h12 g12 l12
        try simp only [Nat.zero_add, List.nil_append] at h12
        have HO12 := Lib.hid h12
        have HC12 := Lib.hid (under_own HA.out HNIL.out (Nat.le_refl _) g12 (by have := HB.out.size; simp; omega))
        clear h12 g12 l12
        obtain ⟨A12, c12, rfl, -, -, -, -, -, -⟩ := own_slice HO12.out HXL.out
        go_wp2
        go_ret
        exact ⟨_, rfl, HO12.out, HC12.out⟩
end Go.Proofs.YtfcnhendebjjeaaDoor.Sha
