/- Walks: SpotPaths. -/
import Derived.Test.YtgpjlofdeidacaaDoorSpMeets
namespace Go.Proofs.YtgpjlofdeidacaaDoor.Sp
set_option linter.all false
open Go.RowKit Fl

theorem alike_from (a b i : Nat) : (a / 2 ^ i = b / 2 ^ i) ↔ bl (a ^^^ b) ≤ i := by
  constructor
  · intro h
    refine bl_lt _ _ ?_
    have h2 := div_xor a b i
    rw [h, Nat.xor_self] at h2
    rcases Nat.lt_or_ge (a ^^^ b) (2 ^ i) with h3 | h3
    · exact h3
    · have := (Nat.le_div_iff_mul_le (Nat.two_pow_pos i)).2 (show 1 * 2 ^ i ≤ a ^^^ b by omega)
      omega
  · intro h
    have h1 := bl_spec (a ^^^ b)
    have h2 : a ^^^ b < 2 ^ i := Nat.lt_of_lt_of_le h1 (Nat.pow_le_pow_right (by decide) h)
    have h3 := div_xor a b i
    rw [Nat.div_eq_of_lt h2] at h3
    exact xor_nil h3.symm
theorem row_cell {w : World} {base g d : Nat} {a : Nat} (h : w.ownsRow base 24 1 (.slice (some ⟨g, 0, none⟩) d d) d (pathL a d)) (k : Nat) (hk : k < d) :
    w.cell? ⟨g, k, none⟩ = some (.complex .f64 (fl (k + 1)) (fl (a / 2 ^ (k + 1)))) := by
  have h1 := h.cells (g := g) rfl k (.complex .f64 (fl (k + 1)) (fl (a / 2 ^ (k + 1)))) (by simp [pathL, hk])
  have ha : (⟨g, 0, none⟩ : Addr).add k = ⟨g, k, none⟩ := by unfold Addr.add; split <;> simp_all
  rwa [ha] at h1

set_option maxHeartbeats 4000000 in
set_option maxRecDepth 100000 in
theorem spotPaths_walk (A B D : Int) (w : World) (hT : Tab w) (hA : (Lit.int .u16 A).wf = true) (hB : (Lit.int .u16 B).wf = true) (hD : (Lit.int .u8 D).wf = true) :
    Calls Tryd.prog 8 #[.int .u16 A, .int .u16 B, .int .u8 D] w fun e w' => e = .returned (.bool true) ∧ Below w.heap.size w w' := by
  obtain ⟨A, rfl, hA⟩ := u16_of hA
  obtain ⟨B, rfl, hB⟩ := u16_of hB
  obtain ⟨D, rfl, hD⟩ := u8_of hD
  have HH := Lib.hid (head_is w hT)
  clear hT
  obtain ⟨d, hd⟩ : ∃ d, D % 17 = d := ⟨_, rfl⟩
  have b0 : d ≤ 16 := by omega
  have x0 : (D : Int).tmod 17 = (d : Int) := by rw [← hd]; rfl
  obtain ⟨n, hn⟩ : ∃ n, 2 ^ d = n := ⟨_, rfl⟩
  have bn : 1 ≤ n := by rw [← hn]; exact Nat.two_pow_pos d
  have bn2 : n ≤ 65536 := by rw [← hn]; exact pow_le d b0
  have x1 : (2 : Int) ^ d = (n : Int) := by rw [← hn]; simp
  obtain ⟨a, ha⟩ : ∃ a, A % n = a := ⟨_, rfl⟩
  obtain ⟨b, hb⟩ : ∃ b, B % n = b := ⟨_, rfl⟩
  have ba : a < n := by rw [← ha]; exact Nat.mod_lt _ (by omega)
  have bb : b < n := by rw [← hb]; exact Nat.mod_lt _ (by omega)
  have x2 : (A : Int).tmod (n : Int) = (a : Int) := by rw [← ha]; rfl
  have x3 : (B : Int).tmod (n : Int) = (b : Int) := by rw [← hb]; rfl
  obtain ⟨l, hl⟩ : ∃ l, bl (a ^^^ b) = l := ⟨_, rfl⟩
  obtain ⟨bl16, -⟩ := meet_small (show a < 65536 by omega) (show b < 65536 by omega)
  rw [hl] at bl16
  obtain ⟨mx, hmx⟩ : ∃ x, fl l = x := ⟨_, rfl⟩
  obtain ⟨my, hmy⟩ : ∃ x, fl (a / 2 ^ l) = x := ⟨_, rfl⟩
  have HM : Hid (MtC (a : Int) (b : Int) mx my) := Lib.hid ⟨a, b, rfl, rfl, by omega, by omega, by unfold meetF; rw [hl]; exact ⟨hmx, hmy⟩⟩
  have HPA := fun w => Lib.hid (path_is a d w b0 (by rw [hn]; exact ba))
  have HPB := fun w => Lib.hid (path_is b d w b0 (by rw [hn]; exact bb))
  have i1 : ∀ w, (convert 22 3 (.float .f64 mx)).run Tryd.prog w = .ok (.int .i64 (l : Int)) w := by rw [← hmx]; exact int_run (nz_fl l) (by omega)
  have y1 : IntKind.i64.wrap (A : Int) = (A : Int) := wrap_small (by omega) (by omega)
  have y2 : IntKind.i64.wrap (B : Int) = (B : Int) := wrap_small (by omega) (by omega)
  have y3 : IntKind.i64.wrap (n : Int) = (n : Int) := wrap_small (by omega) (by omega)
  have y4 : IntKind.i64.wrap (a : Int) = (a : Int) := wrap_small (by omega) (by omega)
  have y5 : IntKind.i64.wrap (b : Int) = (b : Int) := wrap_small (by omega) (by omega)
  have yz : ¬ n = 0 := by omega
  have HL := Lib.hid hl
  have HAN := Lib.hid ba; have HBN := Lib.hid bb
  clear hd hn ha hb hl hmx hmy
  go_enter Tryd.func8, Tryd.ntmps8
  go_wp2_with (first
    | (go_at_call 9; refine HH.out.mono ?_; rintro e' w1 ⟨rfl, hbw⟩; have HB := Lib.hid hbw; clear hbw)
    | fail)
  refine (HPA _).out.mono ?_
  rintro e' w2 ⟨gx, rfl, hox, hbx⟩
  have HB2 := Lib.hid (HB.out.trans (hbx.mono HB.out.size))
  have HOX := Lib.hid hox
  clear hbx hox
  go_wp2_with fail
  refine (HPB _).out.mono ?_
  rintro e' w3 ⟨gy, rfl, hoy, hby⟩
  have HB3 := Lib.hid (HB2.out.trans (hby.mono HB2.out.size))
  have HOX3 := Lib.hid (row_below HOX.out hby)
  have HOY3 := Lib.hid hoy
  clear hby hoy HB2 HOX
  go_wp2
  refine wp_region_still_tail 10 rfl (by kernel_rfl) ?_
  simp only [List.take_succ_cons, List.take_zero, List.drop_succ_cons, List.drop_zero]
  repeat still_step
  refine wpStill_nil ?_
  change wpList _ _ _ _ _ (World.drew _)
  have HB4 := Lib.hid HB3.out.drew
  have HOX4 := Lib.hid (show w3.drew.ownsRow _ _ _ _ _ _ from HOX3.out)
  have HOY4 := Lib.hid (show w3.drew.ownsRow _ _ _ _ _ _ from HOY3.out)
  clear HB3 HOX3 HOY3
  generalize w3.drew = w4 at *
  go_wp2_with fail
  refine (meet_c HM.out _).mono ?_
  rintro e' w' ⟨rfl, rfl⟩
  go_wp2
  have HCX := Lib.hid (fun k hk => row_cell HOX4.out k hk)
  have HCY := Lib.hid (fun k hk => row_cell HOY4.out k hk)
  clear HOX4 HOY4 y1 y2 y3 y4 y5 x0 x1 x2 x3 bn yz
  go_loopw [12] (fun i W => ∃ k : Nat, k ≤ d ∧ i = .int .i64 k ∧ Hid (∀ k, k < d → W.cell? ⟨gx, k, none⟩ = some (.complex .f64 (fl (k + 1)) (fl (a / 2 ^ (k + 1))))) ∧ Hid (∀ k, k < d → W.cell? ⟨gy, k, none⟩ = some (.complex .f64 (fl (k + 1)) (fl (b / 2 ^ (k + 1))))) ∧ Hid (Below w.heap.size w W)) (fun i _ => d - (intOf i).toNat)
  case atStart => exact ⟨0, by omega, rfl, HCX, HCY, HB4⟩
  case round =>
    clear HCX HCY HB4
    obtain ⟨k, hk, rfl, HX, HY, HW⟩ := hrel
    by_cases hkd : k < d
    · have yk : (k : Int) < (d : Int) := by omega
      obtain ⟨k1, hk1⟩ : ∃ k1, k + 1 = k1 := ⟨_, rfl⟩
      have q1 := HX.out k hkd
      have q2 := HY.out k hkd
      rw [hk1] at q1 q2
      obtain ⟨xk, hxk⟩ : ∃ x, fl k1 = x := ⟨_, rfl⟩
      obtain ⟨u, hu⟩ : ∃ x, fl (a / 2 ^ k1) = x := ⟨_, rfl⟩
      obtain ⟨v, hv⟩ : ∃ x, fl (b / 2 ^ k1) = x := ⟨_, rfl⟩
      have han : a / 2 ^ k1 ≤ a := Nat.div_le_self _ _
      have hbn : b / 2 ^ k1 ≤ b := Nat.div_le_self _ _
      have hAN := HAN.out; have hBN := HBN.out
      have hkey := alike_from a b k1
      rw [HL.out] at hkey
      obtain ⟨e, he⟩ : ∃ e, decide (l ≤ k1) = e := ⟨_, rfl⟩
      have o2 : (FloatKind.f64.format.order u v == some .eq) = e := by
        rw [← he]
        by_cases h : a / 2 ^ k1 = b / 2 ^ k1
        · rw [alike hu hv (by omega) (by omega), Nat.compare_eq_eq.2 h, decide_eq_true (hkey.1 h)]; rfl
        · rw [unlike hu hv (by omega) (by omega) h, decide_eq_false (fun h2 => h (hkey.2 h2))]
      have o1 := same hxk (by omega)
      have n1 := nearest_is k1
      rw [hxk, hu] at q1
      rw [hxk, hv] at q2
      rw [hxk] at n1
      have x1 : (k : Int) + 1 = (k1 : Int) := by omega
      have y1 : IntKind.i64.wrap (k1 : Int) = (k1 : Int) := wrap_small (by omega) (by omega)
      have q1' : (World.drew _).cell? ⟨gx, k, none⟩ = _ := q1
      have q2' : (World.drew _).cell? ⟨gy, k, none⟩ = _ := q2
      clear q1 q2 hxk hu hv han hbn hAN hBN hkey
      go_wp2
      refine wp_region_still_lit rfl (by kernel_rfl) ?_
      repeat still_step
      refine wpStill_nil ?_
      change Exit.then _ _ Exit.normal _ (World.drew _)
      go_wp2
      refine ⟨⟨k1, by omega, rfl, Lib.hid (fun j hj => HX.out j hj), Lib.hid (fun j hj => HY.out j hj), Lib.hid HW.out.drew⟩, ?_⟩
      show d - (k1 : Int).toNat < d - (k : Int).toNat
      omega
    · have yk : ¬ (k : Int) < (d : Int) := by omega
      go_wp2
      go_ret
      exact ⟨rfl, HW.out⟩
end Go.Proofs.YtgpjlofdeidacaaDoor.Sp
