/- Walks of the document's own: mod, Squeeze, Stretch, bit. -/
import Derived.Test.YtdkhiooiakdecaaDoorRKpRem
namespace Go.Proofs.YtdkhiooiakdecaaDoorR.Kp
set_option linter.all false
open Go.RowKit Iter Sm

set_option maxHeartbeats 1000000 in
theorem rmod_any (n : Int) (M : Nat) (w : World) (h1 : 1 ≤ M) (h2 : M ≤ 4096) (h3 : -9223372036854775808 ≤ n) (h4 : n ≤ 9223372036854775807) :
    Calls Tryd.prog 33 #[.int .i64 n, .int .i64 M] w fun e w' => e = .returned (.int .i64 (n % (M : Int))) ∧ w' = w := by
  obtain ⟨t1, t2, t3, t4⟩ := tmod_neg_fix n h1
  have h0 : ¬ ((M : Int) = 0) := by omega
  by_cases hneg : n.tmod (M : Int) < 0
  · have e := t1 hneg
    have E := Lib.hid e
    clear t1 t2 e
    go_enter Tryd.func33, Tryd.ntmps33
    go_wp2
    go_ret
    exact ⟨by rw [← E.out]; rfl, rfl⟩
  · have e := t2 hneg
    have E := Lib.hid e
    clear t1 t2 e
    go_enter Tryd.func33, Tryd.ntmps33
    go_wp2
    go_ret
    exact ⟨by rw [← E.out]; rfl, rfl⟩
theorem rmod_q (n : Int) (w : World) (h3 : -9223372036854775808 ≤ n) (h4 : n ≤ 9223372036854775807) :
    Calls Tryd.prog 33 #[.int .i64 n, .int .i64 3329] w fun e w' => e = .returned (.int .i64 (rq n)) ∧ w' = w :=
  (rmod_any n 3329 w (by omega) (by omega) h3 h4).mono fun _ _ h => ⟨by rw [h.1]; congr 2; show n % 3329 = _; unfold rq; omega, h.2⟩
theorem rmod_two (n : Int) (d P : Nat) (w : World) (hP : 2 ^ d = P) (hd : d ≤ 12) (h3 : -9223372036854775808 ≤ n) (h4 : n ≤ 9223372036854775807) :
    Calls Tryd.prog 33 #[.int .i64 n, .int .i64 P] w fun e w' => e = .returned (.int .i64 (rd2 d n)) ∧ w' = w := by
  have hp : 0 < 2 ^ d := Nat.two_pow_pos d
  have hl := pow_le hd
  subst hP
  exact (rmod_any n (2 ^ d) w (by omega) (by omega) h3 h4).mono fun _ _ h => ⟨by rw [h.1, rd2_is], h.2⟩
set_option maxHeartbeats 2000000 in
set_option maxRecDepth 100000 in
theorem rsqueeze_ok (d : Nat) (n : Int) (w : World) (h1 : 1 ≤ d) (h2 : d ≤ 11) (h3 : -9223372036854775808 ≤ n) (h4 : n ≤ 9223372036854775807) :
    Calls Tryd.prog 16 #[.int .i64 d, .int .i64 n] w fun e w' => e = .returned (.int .i64 (sqz d (rq n))) ∧ ∃ k, w' = w.drewN k := by
  have hL := rmod_q n w.drew h3 h4
  have hx := rq_lt n
  obtain ⟨P, hP⟩ : ∃ P, 2 ^ d = P := ⟨_, rfl⟩
  have hP1 : 1 ≤ P := by rw [← hP]; exact Nat.two_pow_pos d
  have hP2 : P ≤ 2048 := by rw [← hP]; exact pow_le h2
  have hpk : (2 : Int) ^ d = (P : Int) := by rw [pow_int, hP]
  obtain ⟨x, hx0⟩ : ∃ x, rq n = x := ⟨_, rfl⟩
  have HQ : Hid (Unit → ((((2 * x * P + 3329) / 6658 % P : Nat) : Int) = (sqz d (rq n) : Int))) := Lib.hid fun _ => by rw [← sqz_doc, hP, hx0]
  rw [hx0] at hL hx
  have HL := Lib.hid hL
  obtain ⟨T, hT⟩ : ∃ T, 2 * x * P = T := ⟨_, rfl⟩
  have hT2 : T ≤ 13631488 := by
    rw [← hT]
    have := Nat.mul_le_mul (show 2 * x ≤ 2 * 3328 by omega) hP2
    omega
  rw [hT] at HQ
  have eT : 2 * (x : Int) * (P : Int) = (T : Int) := by rw [← hT]; rfl
  have q0 : IntKind.i64.wrap (2 * (x : Int)) = 2 * (x : Int) := by rw [IntKind.wrap_i64]; omega
  have q1 : IntKind.i64.wrap (T : Int) = (T : Int) := by rw [IntKind.wrap_i64]; omega
  have q2 : IntKind.i64.wrap ((T : Int) + 3329) = (T : Int) + 3329 := by rw [IntKind.wrap_i64]; omega
  obtain ⟨U, hU⟩ : ∃ U, (T + 3329) / 6658 = U := ⟨_, rfl⟩
  have q3 : IntKind.i64.wrap (((T : Int) + 3329).tdiv 6658) = (U : Int) := by rw [Int.tdiv_eq_ediv_of_nonneg (by omega), IntKind.wrap_i64]; omega
  have q4 : IntKind.i64.wrap (P : Int) = (P : Int) := by rw [IntKind.wrap_i64]; omega
  have q5 : (U : Int).tmod (P : Int) = ((U % P : Nat) : Int) := by rw [Int.tmod_eq_emod_of_nonneg (by omega), Int.natCast_emod]
  rw [hU] at HQ
  obtain ⟨V, hV⟩ : ∃ V, U % P = V := ⟨_, rfl⟩
  rw [hV] at HQ q5
  have hVP : V < P := by rw [← hV]; exact Nat.mod_lt _ (by omega)
  have q6 : IntKind.i64.wrap (V : Int) = (V : Int) := by rw [IntKind.wrap_i64]; omega
  have q7 : ¬ ((P : Int) = 0) := by omega
  have q8 : ¬ (P = 0) := by omega
  have q9 : (U : Int) % (P : Int) = (V : Int) := by rw [← hV, Int.natCast_emod]
  clear hP hx0 hL hT hU
  go_enter Tryd.func16, Tryd.ntmps16
  go_wp2
  refine wp_region_still_tail 10 (by kernel_rfl) (by kernel_rfl) ?_
  simp only [List.take_succ_cons, List.take_zero, List.drop_succ_cons, List.drop_zero]
  repeat still_step
  still_call HL.out
  repeat still_step
  refine wpStill_nil ?_
  change wpList _ _ _ _ _ w.drew
  go_wp2
  go_ret
  exact ⟨by rw [← HQ.out ()]; rfl, 1, rfl⟩
set_option maxHeartbeats 1000000 in
set_option maxRecDepth 100000 in
theorem rsqueeze_no (d n : Int) (w : World) (h : ¬ (1 ≤ d ∧ d ≤ 11)) :
    Calls Tryd.prog 16 #[.int .i64 d, .int .i64 n] w fun e w' => e = .returned (.int .i64 0) ∧ ∃ k, w' = w.drewN k := by
  by_cases h1 : d < 1
  · clear h
    go_enter Tryd.func16, Tryd.ntmps16
    go_wp2
    go_ret
    exact ⟨rfl, 0, rfl⟩
  · have h2 : 11 < d := by omega
    clear h
    go_enter Tryd.func16, Tryd.ntmps16
    go_wp2
    go_ret
    exact ⟨rfl, 0, rfl⟩
theorem rsqueeze_any (d n : Int) (w : World) (h3 : -9223372036854775808 ≤ n) (h4 : n ≤ 9223372036854775807) :
    Calls Tryd.prog 16 #[.int .i64 d, .int .i64 n] w fun e w' => e = .returned (.int .i64 (squeezed d n)) ∧ ∃ k, w' = w.drewN k := by
  unfold squeezed
  by_cases h : 1 ≤ d ∧ d ≤ 11
  · rw [if_pos h]
    obtain ⟨k, rfl⟩ : ∃ k : Nat, d = k := ⟨d.toNat, by omega⟩
    exact rsqueeze_ok k n w (by omega) (by omega) h3 h4
  · rw [if_neg h]
    exact rsqueeze_no d n w h
set_option maxHeartbeats 2000000 in
set_option maxRecDepth 100000 in
theorem rstretch_ok (d : Nat) (n : Int) (w : World) (h1 : 1 ≤ d) (h2 : d ≤ 11) (h3 : -9223372036854775808 ≤ n) (h4 : n ≤ 9223372036854775807) :
    Calls Tryd.prog 18 #[.int .i64 d, .int .i64 n] w fun e w' => e = .returned (.int .i64 (str d (rd2 d n))) ∧ ∃ k, w' = w.drewN k := by
  have hy := rd2_lt d n
  obtain ⟨P, hP⟩ : ∃ P, 2 ^ d = P := ⟨_, rfl⟩
  have hL := rmod_two n d P w.drew hP (by omega) h3 h4
  have hP1 : 1 ≤ P := by rw [← hP]; exact Nat.two_pow_pos d
  have hP2 : P ≤ 2048 := by rw [← hP]; exact pow_le h2
  have hpk : (2 : Int) ^ d = (P : Int) := by rw [pow_int, hP]
  have hpk1 : (2 : Int) ^ (d + 1) = 2 * (P : Int) := by rw [Int.pow_succ, hpk]; omega
  have HQ : Hid (Unit → ((((6658 * rd2 d n + P) / (2 * P) : Nat) : Int) = (str d (rd2 d n) : Int))) := Lib.hid fun _ => by rw [← str_doc d _ h1, hP, Nat.pow_succ, hP, Nat.mul_comm P 2]
  obtain ⟨y, hy0⟩ : ∃ y, rd2 d n = y := ⟨_, rfl⟩
  rw [hy0] at hL hy
  rw [hP] at hy
  have HL := Lib.hid hL
  obtain ⟨U, hU⟩ : ∃ U, (6658 * y + P) / (2 * P) = U := ⟨_, rfl⟩
  have HU : Hid (Unit → (U : Int) = (str d (rd2 d n) : Int)) := Lib.hid fun _ => by rw [← HQ.out (), hy0, hU]
  have hj : ((d : Int) + 1).toNat = d + 1 := by omega
  have q0 : IntKind.i64.wrap (P : Int) = (P : Int) := by rw [IntKind.wrap_i64]; omega
  have q1 : IntKind.i64.wrap (6658 * (y : Int)) = 6658 * (y : Int) := by rw [IntKind.wrap_i64]; omega
  have q2 : IntKind.i64.wrap (6658 * (y : Int) + (P : Int)) = 6658 * (y : Int) + (P : Int) := by rw [IntKind.wrap_i64]; omega
  have q3 : IntKind.i64.wrap ((d : Int) + 1) = (d : Int) + 1 := by rw [IntKind.wrap_i64]; omega
  have q4 : (6658 * (y : Int) + (P : Int)) / (2 * (P : Int)) = (U : Int) := by rw [← hU, Int.natCast_ediv]; rfl
  clear hP hy0 hL hU HQ
  go_enter Tryd.func18, Tryd.ntmps18
  go_wp2
  refine wp_region_still_tail 11 (by kernel_rfl) (by kernel_rfl) ?_
  simp only [List.take_succ_cons, List.take_zero, List.drop_succ_cons, List.drop_zero]
  repeat still_step
  still_call HL.out
  repeat still_step
  refine wpStill_nil ?_
  change wpList _ _ _ _ _ w.drew
  go_wp2
  go_ret
  exact ⟨by rw [← HU.out ()]; rfl, 1, rfl⟩
set_option maxHeartbeats 1000000 in
set_option maxRecDepth 100000 in
theorem rstretch_no (d n : Int) (w : World) (h : ¬ (1 ≤ d ∧ d ≤ 11)) :
    Calls Tryd.prog 18 #[.int .i64 d, .int .i64 n] w fun e w' => e = .returned (.int .i64 0) ∧ ∃ k, w' = w.drewN k := by
  by_cases h1 : d < 1
  · clear h
    go_enter Tryd.func18, Tryd.ntmps18
    go_wp2
    go_ret
    exact ⟨rfl, 0, rfl⟩
  · have h2 : 11 < d := by omega
    clear h
    go_enter Tryd.func18, Tryd.ntmps18
    go_wp2
    go_ret
    exact ⟨rfl, 0, rfl⟩
theorem rstretch_any (d n : Int) (w : World) (h3 : -9223372036854775808 ≤ n) (h4 : n ≤ 9223372036854775807) :
    Calls Tryd.prog 18 #[.int .i64 d, .int .i64 n] w fun e w' => e = .returned (.int .i64 (stretched d n)) ∧ ∃ k, w' = w.drewN k := by
  unfold stretched
  by_cases h : 1 ≤ d ∧ d ≤ 11
  · rw [if_pos h]
    obtain ⟨k, rfl⟩ : ∃ k : Nat, d = k := ⟨d.toNat, by omega⟩
    exact rstretch_ok k n w (by omega) (by omega) h3 h4
  · rw [if_neg h]
    exact rstretch_no d n w h

/-! ### A bit of bytes -/
theorem bt_byte {bs : List Nat} (hb : ∀ j, Kec.gt bs j < 256) {n : Nat} (t : Nat) (ht : t < 8 * n) : Kec.gt bs (t / 8) / 2 ^ (t % 8) % 2 = bt (num 8 (Kec.gt bs) n) t := by
  have hd := num_dig (h := 8) (f := Kec.gt bs) (fun j => (show _ < 2 ^ 8 from hb j)) n (t / 8) (by omega)
  rw [← hd]
  have := bt_grp (num 8 (Kec.gt bs) n) 8 (t / 8) (t % 8) (Nat.mod_lt _ (by omega))
  rw [Nat.div_add_mod] at this
  exact this
set_option maxHeartbeats 1000000 in
set_option maxRecDepth 100000 in
theorem rbit_any (A : Option Addr) (bs : List Nat) (n c t : Nat) (w : World) (hR : Kec.Rd w w.heap.size A bs) (hn : bs.length = n) (ht : t < 8 * n) (hm : n ≤ 100000) :
    Calls Tryd.prog 25 #[.slice A n c, .int .i64 t] w fun e w' => e = .returned (.int .i64 (bt (num 8 (Kec.gt bs) n) t)) ∧ w' = w := by
  have hv := bt_byte hR.1 t ht
  obtain ⟨ad, rfl, _, hcell⟩ := hR.2 (by omega)
  have ce := hcell (t / 8) (by omega)
  have hlt := hR.1 (t / 8)
  obtain ⟨z, hz⟩ : ∃ z, Kec.gt bs (t / 8) = z := ⟨_, rfl⟩
  rw [hz] at ce hlt hv
  obtain ⟨q, hq⟩ : ∃ q, t / 8 = q := ⟨_, rfl⟩
  obtain ⟨r, hr⟩ : ∃ r, t % 8 = r := ⟨_, rfl⟩
  rw [hq] at ce
  rw [hr] at hv
  have hqn : q < n := by omega
  have eq1 : (t : Int) / 8 = (q : Int) := by omega
  have er1 : (t : Int) % 8 = (r : Int) := by omega
  have hr8 : r < 8 := by omega
  have hs := shr_nat z r
  obtain ⟨y, hy⟩ : ∃ y, z / 2 ^ r = y := ⟨_, rfl⟩
  rw [hy] at hs hv
  have hy256 : y < 256 := by rw [← hy]; exact Nat.lt_of_le_of_lt (Nat.div_le_self _ _) hlt
  have ha := and_one y
  have HV := Lib.hid (fun _ : Unit => hv)
  clear hR hn hcell hz hq hr hy hv
  go_enter Tryd.func25, Tryd.ntmps25
  go_wp2
  go_ret
  exact ⟨by rw [← HV.out ()]; rfl, rfl⟩
end Go.Proofs.YtdkhiooiakdecaaDoorR.Kp
