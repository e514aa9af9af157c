/- Walks: groups of bits, of bytes and of numbers. Written by tools/mk_kpregr.py. -/
import Derived.Test.YtdkhiooiakdecaaDoorRKpWalkA
import Derived.Test.YtdkhiooiakdecaaDoorRKecWalkG
namespace Go.Proofs.YtdkhiooiakdecaaDoorR.Kp
set_option linter.all false
open Go.RowKit Iter
attribute [local go_sem] Oper.semAt_some

theorem or_add {a m : Nat} (k : Nat) (h : a < 2 ^ m) : a ||| k * 2 ^ m = a + k * 2 ^ m := by
  rw [Nat.or_comm, Nat.mul_comm, ← Nat.two_pow_add_eq_or_of_lt h, Nat.add_comm]
theorem i64_or_nat (a b : Nat) (ha : a < 2 ^ 62) (hb : b < 2 ^ 62) : bits .or .i64 (a : Int) (b : Int) = ((a ||| b : Nat) : Int) := by
  have hx : a ||| b < 2 ^ 62 := Nat.or_lt_two_pow ha hb
  have e : ∀ x : Nat, x < 2 ^ 62 → (BitVec.ofInt 64 (x : Int)).toNat = x := fun x hx => by rw [BitVec.toNat_ofInt]; omega
  show IntKind.i64.wrap ((BitVec.ofInt 64 (a : Int) ||| BitVec.ofInt 64 (b : Int)).toNat : Int) = _
  rw [BitVec.toNat_or, e a ha, e b hb, IntKind.wrap_i64]
  omega
theorem i64_or_shl {a m : Nat} (k : Nat) (h : a < 2 ^ m) (hm : m ≤ 24) (hk : k < 2 ^ 12) : bits .or .i64 (a : Int) ((k : Int) * 2 ^ m) = ((a + k * 2 ^ m : Nat) : Int) := by
  have h1 := pow_le hm
  have h2 : k * 2 ^ m ≤ 2 ^ 12 * 2 ^ 24 := Nat.mul_le_mul (by omega) h1
  rw [pow_int, ← Int.natCast_mul, i64_or_nat _ _ (by omega) (by omega), or_add k h]
theorem shl_le (k m : Nat) (hm : m ≤ 24) (hk : k < 2 ^ 12) : 0 ≤ (k : Int) * 2 ^ m ∧ (k : Int) * 2 ^ m ≤ 68719476736 := by
  have h2 : k * 2 ^ m ≤ 2 ^ 12 * 2 ^ 24 := Nat.mul_le_mul (by omega) (pow_le hm)
  rw [pow_int, ← Int.natCast_mul]; omega
theorem shr_nat (b d : Nat) : (b : Int) / 2 ^ d = ((b / 2 ^ d : Nat) : Int) := by rw [pow_int, Int.natCast_ediv]
theorem rd_kept {w w' : World} {B : Nat} {A : Option Addr} {bs : List Nat} {X : Nat → Prop} (h : Kec.Rd w B A bs) (hk : Kept X w w') (hX : ∀ k, X k → ∀ ad, A = some ad → k ≠ ad.block) (hB : B ≤ w.heap.size) : Kec.Rd w' B A bs := by
  refine ⟨h.1, fun hn => ?_⟩
  obtain ⟨ad, h1, h2, h3⟩ := h.2 hn
  refine ⟨ad, h1, h2, fun j hj => ?_⟩
  have e : (ad.add j).block = ad.block := by unfold Addr.add; split <;> rfl
  rw [World.cell?_of_block (hk.block (ad.add j).block (by rw [e]; omega) fun x => hX _ x ad h1 e)]
  exact h3 j hj
/-- numbers, as a slice reads them -/
def Rn (w : World) (B : Nat) (A : Option Addr) (f : Nat → Nat) (n : Nat) : Prop :=
  0 < n → ∃ ad : Addr, A = some ad ∧ ad.block < B ∧ ∀ j, j < n → w.cell? (ad.add j) = some (.int .i64 (f j : Nat))
theorem Rn.kept {w w' : World} {B : Nat} {A : Option Addr} {f : Nat → Nat} {n : Nat} {X : Nat → Prop} (h : Rn w B A f n) (hk : Kept X w w') (hX : ∀ k, X k → ∀ ad, A = some ad → k ≠ ad.block) (hB : B ≤ w.heap.size) : Rn w' B A f n := by
  intro hn
  obtain ⟨ad, h1, h2, h3⟩ := h hn
  refine ⟨ad, h1, h2, fun j hj => ?_⟩
  have e : (ad.add j).block = ad.block := by unfold Addr.add; split <;> rfl
  rw [World.cell?_of_block (hk.block (ad.add j).block (by rw [e]; omega) fun x => hX _ x ad h1 e)]
  exact h3 j hj
theorem Rn.below {w w' : World} {B : Nat} {A : Option Addr} {f : Nat → Nat} {n : Nat} (h : Rn w B A f n) (hb : Below B w w') : Rn w' B A f n := by
  intro hn
  obtain ⟨ad, h1, h2, h3⟩ := h hn
  refine ⟨ad, h1, h2, fun j hj => ?_⟩
  have e : (ad.add j).block = ad.block := by unfold Addr.add; split <;> rfl
  rw [hb.cell (by rw [e]; exact h2)]
  exact h3 j hj
theorem groups_end {h d n j : Nat} (h1 : d * j ≤ h * n) (h2 : h * n < d * j + d) : j = h * n / d := by
  have hd : 0 < d := by omega
  exact (Nat.div_eq_of_lt_le (by rw [Nat.mul_comm]; exact h1) (by rw [Nat.add_mul, Nat.one_mul, Nat.mul_comm j d]; exact h2)).symm

set_option maxHeartbeats 2000000 in
set_option maxRecDepth 100000 in
theorem regb_hands (bw bh bd : Nat) (A : Option Addr) (bs : List Nat) (n c d : Nat) (X : Nat → Prop) (w : World)
    (hX : ∀ k, X k → k < w.heap.size + 2 ∧ k ≠ bw ∧ k ≠ bh ∧ k ≠ bd ∧ ∀ ad, A = some ad → k ≠ ad.block) (h1 : 1 ≤ d) (h2 : d ≤ 12)
    (hcw : w.cell? ⟨bw, 0, none⟩ = some (.slice A n c)) (hch : w.cell? ⟨bh, 0, none⟩ = some (.int .i64 8)) (hcd : w.cell? ⟨bd, 0, none⟩ = some (.int .i64 d))
    (hR : Kec.Rd w w.heap.size A bs) (hn : bs.length = n) (hm : n ≤ 100000) :
    HandsN Tryd.prog 49 #[.pointer (some ⟨bw, 0, none⟩), .pointer (some ⟨bh, 0, none⟩), .pointer (some ⟨bd, 0, none⟩)] (8 * n / d) (fun k => #[.int .i64 ((grp d (num 8 (Kec.gt bs) n) k : Nat) : Int)]) X w := by
  intro l J Jx W hW hsz hJ hJx hY h0
  have HF : Hid (∀ i, (Kec.gt bs) i < 2 ^ 8) := Lib.hid hR.1
  have hwz : w.heap.size ≤ W.heap.size := hW.size
  have HR := Lib.hid (hR.below hW)
  have HK0 := Lib.hid (Kept.refl X W)
  have HCW := Lib.hid ((hW.cell (p := ⟨bw, 0, none⟩) (block_lt_of_cell hcw)).trans hcw)
  have HCH := Lib.hid ((hW.cell (p := ⟨bh, 0, none⟩) (block_lt_of_cell hch)).trans hch)
  have HCD := Lib.hid ((hW.cell (p := ⟨bd, 0, none⟩) (block_lt_of_cell hcd)).trans hcd)
  have HBW := block_lt_of_cell HCW.out; have HBH := block_lt_of_cell HCH.out; have HBD := block_lt_of_cell HCD.out
  have HJ := Lib.hid hJ; have HY := Lib.hid hY; have H0 := Lib.hid h0; have HX := Lib.hid hX; have HN := Lib.hid hn
  clear hJ hJx hY h0 hX hcw hch hcd hR hW hn
  dsimp only at HBW HBH HBD
  have c0 := HCW.out
  refine callsIn_of_wp Tryd.func49 rfl trivial ?_ rfl
  simp only [Tryd.ntmps49, List.size_toArray, List.length_cons, List.length_nil, Nat.reduceAdd, Nat.reduceSub, Array.replicate_succ, Array.replicate_zero, List.push_toArray, List.append_toArray, List.nil_append, List.cons_append]
  gi_wp2
  clear c0
  gi_loopw [5, 6, 11] (fun b m i wr => ∃ (k j q v : Nat), k ≤ n ∧ i = .int .i64 k ∧ m = .int .i64 q ∧ b = .int .i64 v ∧ d * j + q = 8 * k ∧ q < d ∧ Hid (Unit → left 8 (Kec.gt bs) d k j = v) ∧ Hid (J j wr) ∧ Hid (Kept X W wr)) (fun _ _ i _ => n - (intOf i).toNat)
  case atStart => exact ⟨0, 0, 0, 0, by omega, rfl, rfl, rfl, by omega, by omega, Lib.hid fun _ => Nat.zero_div _, H0, HK0⟩
  case round =>
    obtain ⟨k, j, q, v, hk, rfl, rfl, rfl, hjq, hqd, HL, HJ1, HK1⟩ := hrel
    by_cases hlt : k < n
    · have hR1 := rd_kept HR.out HK1.out (fun k e => (HX.out k e).2.2.2.2) hwz
      obtain ⟨ad, rfl, hadB, hcell⟩ := hR1.2 (by rw [HN.out]; omega)
      have ce := hcell k (by rw [HN.out]; exact hlt)
      have hfk := HF.out k
      have hvq : v < 2 ^ q := by
        have := left_lt (w := d) (i := k) (j := j) HF.out (by omega)
        rw [HL.out (), show 8 * k - d * j = q by omega] at this
        exact this
      have HLW : Hid (Unit → left 8 (Kec.gt bs) d (k + 1) j = v + (Kec.gt bs) k * 2 ^ q) := Lib.hid fun _ => by
        rw [left_word (by omega), HL.out (), show 8 * k - d * j = q by omega]
      have ch := (World.cell?_of_block (w := W) (w' := wr) (a := ⟨bh, 0, none⟩) (HK1.out.block bh HBH fun e => (HX.out _ e).2.2.1 rfl)).trans HCH.out
      have cd := (World.cell?_of_block (w := W) (w' := wr) (a := ⟨bd, 0, none⟩) (HK1.out.block bd HBD fun e => (HX.out _ e).2.2.2.1 rfl)).trans HCD.out
      obtain ⟨z, hz⟩ : ∃ z, (Kec.gt bs) k = z := ⟨_, rfl⟩
      rw [hz] at ce hfk
      have HZ := Lib.hid (fun _ : Unit => hz)
      have hz12 : z < 2 ^ 12 := Nat.lt_of_lt_of_le hfk (pow_le (by omega))
      obtain ⟨s1, s2⟩ := shl_le z q (by omega) hz12
      have hor := i64_or_shl z hvq (by omega) hz12
      obtain ⟨V, hV⟩ : ∃ V, v + z * 2 ^ q = V := ⟨_, rfl⟩
      rw [hV] at hor
      have HLV : Hid (Unit → left 8 (Kec.gt bs) d (k + 1) j = V) := Lib.hid fun _ => by rw [HLW.out (), HZ.out (), hV]
      have hms : 8 * (k + 1) = 8 * k + 8 := Nat.mul_succ _ _
      clear hR1 hcell hvq hz hV HLW HL HZ hz12
      gi_wp2
      clear hor s1 s2 ce ch cd
      gi_loopw [5, 6] (fun b m wr' => ∃ (j' q' v' : Nat), m = .int .i64 q' ∧ b = .int .i64 v' ∧ d * j' + q' = 8 * (k + 1) ∧ v' < 2 ^ q' ∧ q' ≤ 24 ∧ Hid (Unit → left 8 (Kec.gt bs) d (k + 1) j' = v') ∧ Hid (J j' wr') ∧ Hid (Kept X W wr')) (fun _ m _ => (intOf m).toNat)
      case atStart => exact ⟨j, q + 8, V, by go_num, rfl, by omega, (by
        have h3 := left_lt (w := d) (i := k + 1) (j := j) HF.out (by rw [Nat.mul_add]; omega)
        rw [HLV.out (), show 8 * (k + 1) - d * j = q + 8 by rw [Nat.mul_add]; omega] at h3
        exact h3), by omega, HLV, HJ1, HK1⟩
      case round =>
        obtain ⟨j', q', v', rfl, rfl, hjq', hvq', hq24, HL2, HJ2, HK2⟩ := hrel
        have cd2 := (World.cell?_of_block (w := W) (w' := wr) (a := ⟨bd, 0, none⟩) (HK2.out.block bd HBD fun e => (HX.out _ e).2.2.2.1 rfl)).trans HCD.out
        by_cases hge : d ≤ q'
        · have hmul : d * (j' + 1) = d * j' + d := Nat.mul_succ _ _
          have hkn : 8 * (k + 1) ≤ 8 * n := Nat.mul_le_mul_left _ hlt
          have hjc : j' < 8 * n / d := by
            rw [Nat.lt_div_iff_mul_lt (by omega)]
            rw [Nat.mul_comm]
            omega
          have hgr : v' % 2 ^ d = grp d (num 8 (Kec.gt bs) n) j' := by
            rw [← HL2.out ()]
            exact left_grp HF.out hlt (by omega)
          have hnx : left 8 (Kec.gt bs) d (k + 1) (j' + 1) = v' / 2 ^ d := by rw [left_told, HL2.out ()]
          have hdv : v' / 2 ^ d < 2 ^ (q' - d) := by
            rw [Nat.div_lt_iff_lt_mul (Nat.two_pow_pos _), ← Nat.pow_add, Nat.sub_add_cancel hge]; exact hvq'
          have hsr := shr_nat v' d
          have HG := Lib.hid (fun _ : Unit => hgr); have HNX := Lib.hid (fun _ : Unit => hnx)
          obtain ⟨V', hV'⟩ : ∃ V', v' / 2 ^ d = V' := ⟨_, rfl⟩
          rw [hV'] at hdv hsr
          have HV' := Lib.hid (fun _ : Unit => hV')
          have hdn : ¬ ((q' : Int) < (d : Int)) := by omega
          have hge' : (d : Int) ≤ (q' : Int) := by omega
          clear hgr hnx hV' hmul hkn
          gi_wp2_with fail
          refine ⟨trivial, rfl, ?_⟩
          refine (callsIn_wide.2 (lowest_nat d v' _ (by omega))).mono ?_
          rintro e' w1 ⟨rfl, rfl⟩
          rw [HG.out ()]
          obtain ⟨fn, tmps, assign, body, hy, hRr⟩ := HY.out j' wr hjc HJ2.out
          have HR9 := Lib.hid hRr
          clear hRr
          gi_wp2_with fail
          refine ⟨rfl, HR9.out.mono ?_⟩
          rintro e' W6 (⟨rfl, hJ6, hK6⟩ | ⟨rfl, hJx, hK6⟩)
          · have HJ6 := Lib.hid hJ6; have HK6 := Lib.hid (HK2.out.trans hK6)
            have cd3 := (World.cell?_of_block (w := W) (w' := W6) (a := ⟨bd, 0, none⟩) (HK6.out.block bd HBD fun e => (HX.out _ e).2.2.2.1 rfl)).trans HCD.out
            clear hJ6 hK6 cd2
            gi_wp2
            go_roundw
            case rel => exact ⟨j' + 1, q' - d, V', by go_num, rfl, by rw [Nat.mul_succ]; omega, hdv, by omega, Lib.hid (fun _ => by rw [HNX.out (), HV'.out ()]), HJ6, HK6⟩
            case measure => simp [intOf]; omega
          · have HJx := Lib.hid hJx
            clear hJx hK6
            gi_wp2
            refine bodyPost_ret (results_none rfl _ _ _) rfl ?_
            exact ⟨⟨_, rfl⟩, .inr ⟨_, hjc, HJx.out⟩⟩
        · have hdn : (q' : Int) < (d : Int) := by omega
          have hge' : ¬ ((d : Int) ≤ (q' : Int)) := by omega
          gi_wp2
          go_roundw
          case rel => exact ⟨k + 1, j', q', v', by omega, by go_num, rfl, rfl, hjq', by omega, HL2, HJ2, HK2⟩
          case measure => simp [intOf]; omega
    · obtain rfl : k = n := by omega
      gi_wp2
      go_end0
      have hje : j = 8 * k / d := groups_end (by omega) (by omega)
      exact ⟨⟨_, rfl⟩, .inl (by rw [← hje]; exact HJ1.out)⟩
set_option maxHeartbeats 2000000 in
set_option maxRecDepth 100000 in
theorem regi_hands (bw bh bd : Nat) (A : Option Addr) (f : Nat → Nat) (n c d : Nat) (X : Nat → Prop) (w : World)
    (hX : ∀ k, X k → k < w.heap.size + 2 ∧ k ≠ bw ∧ k ≠ bh ∧ k ≠ bd ∧ ∀ ad, A = some ad → k ≠ ad.block) (h1 : 1 ≤ d) (h2 : d ≤ 12)
    (hcw : w.cell? ⟨bw, 0, none⟩ = some (.slice A n c)) (hch : w.cell? ⟨bh, 0, none⟩ = some (.int .i64 d)) (hcd : w.cell? ⟨bd, 0, none⟩ = some (.int .i64 8))
    (hR : Rn w w.heap.size A f n) (hf : ∀ i, f i < 2 ^ d) (hm : n ≤ 100000) :
    HandsN Tryd.prog 46 #[.pointer (some ⟨bw, 0, none⟩), .pointer (some ⟨bh, 0, none⟩), .pointer (some ⟨bd, 0, none⟩)] (d * n / 8) (fun k => #[.int .i64 ((grp 8 (num d f n) k : Nat) : Int)]) X w := by
  intro l J Jx W hW hsz hJ hJx hY h0
  have HF : Hid (∀ i, f i < 2 ^ d) := Lib.hid hf
  have hwz : w.heap.size ≤ W.heap.size := hW.size
  have HR := Lib.hid (hR.below hW)
  have HK0 := Lib.hid (Kept.refl X W)
  have HCW := Lib.hid ((hW.cell (p := ⟨bw, 0, none⟩) (block_lt_of_cell hcw)).trans hcw)
  have HCH := Lib.hid ((hW.cell (p := ⟨bh, 0, none⟩) (block_lt_of_cell hch)).trans hch)
  have HCD := Lib.hid ((hW.cell (p := ⟨bd, 0, none⟩) (block_lt_of_cell hcd)).trans hcd)
  have HBW := block_lt_of_cell HCW.out; have HBH := block_lt_of_cell HCH.out; have HBD := block_lt_of_cell HCD.out
  have HJ := Lib.hid hJ; have HY := Lib.hid hY; have H0 := Lib.hid h0; have HX := Lib.hid hX
  clear hJ hJx hY h0 hX hcw hch hcd hR hW hf
  dsimp only at HBW HBH HBD
  have c0 := HCW.out
  refine callsIn_of_wp Tryd.func46 rfl trivial ?_ rfl
  simp only [Tryd.ntmps46, List.size_toArray, List.length_cons, List.length_nil, Nat.reduceAdd, Nat.reduceSub, Array.replicate_succ, Array.replicate_zero, List.push_toArray, List.append_toArray, List.nil_append, List.cons_append]
  gi_wp2
  clear c0
  gi_loopw [5, 6, 11] (fun b m i wr => ∃ (k j q v : Nat), k ≤ n ∧ i = .int .i64 k ∧ m = .int .i64 q ∧ b = .int .i64 v ∧ 8 * j + q = d * k ∧ q < 8 ∧ Hid (Unit → left d f 8 k j = v) ∧ Hid (J j wr) ∧ Hid (Kept X W wr)) (fun _ _ i _ => n - (intOf i).toNat)
  case atStart => exact ⟨0, 0, 0, 0, by omega, rfl, rfl, rfl, by omega, by omega, Lib.hid fun _ => Nat.zero_div _, H0, HK0⟩
  case round =>
    obtain ⟨k, j, q, v, hk, rfl, rfl, rfl, hjq, hqd, HL, HJ1, HK1⟩ := hrel
    by_cases hlt : k < n
    · have hR1 := HR.out.kept HK1.out (fun k e => (HX.out k e).2.2.2.2) hwz
      obtain ⟨ad, rfl, hadB, hcell⟩ := hR1 (by omega)
      have ce := hcell k hlt
      have hfk := HF.out k
      have hvq : v < 2 ^ q := by
        have := left_lt (w := 8) (i := k) (j := j) HF.out (by omega)
        rw [HL.out (), show d * k - 8 * j = q by omega] at this
        exact this
      have HLW : Hid (Unit → left d f 8 (k + 1) j = v + f k * 2 ^ q) := Lib.hid fun _ => by
        rw [left_word (by omega), HL.out (), show d * k - 8 * j = q by omega]
      have ch := (World.cell?_of_block (w := W) (w' := wr) (a := ⟨bh, 0, none⟩) (HK1.out.block bh HBH fun e => (HX.out _ e).2.2.1 rfl)).trans HCH.out
      have cd := (World.cell?_of_block (w := W) (w' := wr) (a := ⟨bd, 0, none⟩) (HK1.out.block bd HBD fun e => (HX.out _ e).2.2.2.1 rfl)).trans HCD.out
      obtain ⟨z, hz⟩ : ∃ z, f k = z := ⟨_, rfl⟩
      rw [hz] at ce hfk
      have HZ := Lib.hid (fun _ : Unit => hz)
      have hz12 : z < 2 ^ 12 := Nat.lt_of_lt_of_le hfk (pow_le (by omega))
      obtain ⟨s1, s2⟩ := shl_le z q (by omega) hz12
      have hor := i64_or_shl z hvq (by omega) hz12
      obtain ⟨V, hV⟩ : ∃ V, v + z * 2 ^ q = V := ⟨_, rfl⟩
      rw [hV] at hor
      have HLV : Hid (Unit → left d f 8 (k + 1) j = V) := Lib.hid fun _ => by rw [HLW.out (), HZ.out (), hV]
      have hms : d * (k + 1) = d * k + d := Nat.mul_succ _ _
      clear hR1 hcell hvq hz hV HLW HL HZ hz12
      gi_wp2
      clear hor s1 s2 ce ch cd
      gi_loopw [5, 6] (fun b m wr' => ∃ (j' q' v' : Nat), m = .int .i64 q' ∧ b = .int .i64 v' ∧ 8 * j' + q' = d * (k + 1) ∧ v' < 2 ^ q' ∧ q' ≤ 24 ∧ Hid (Unit → left d f 8 (k + 1) j' = v') ∧ Hid (J j' wr') ∧ Hid (Kept X W wr')) (fun _ m _ => (intOf m).toNat)
      case atStart => exact ⟨j, q + d, V, by go_num, rfl, by omega, (by
        have h3 := left_lt (w := 8) (i := k + 1) (j := j) HF.out (by rw [Nat.mul_add]; omega)
        rw [HLV.out (), show d * (k + 1) - 8 * j = q + d by rw [Nat.mul_add]; omega] at h3
        exact h3), by omega, HLV, HJ1, HK1⟩
      case round =>
        obtain ⟨j', q', v', rfl, rfl, hjq', hvq', hq24, HL2, HJ2, HK2⟩ := hrel
        have cd2 := (World.cell?_of_block (w := W) (w' := wr) (a := ⟨bd, 0, none⟩) (HK2.out.block bd HBD fun e => (HX.out _ e).2.2.2.1 rfl)).trans HCD.out
        by_cases hge : 8 ≤ q'
        · have hmul : 8 * (j' + 1) = 8 * j' + 8 := Nat.mul_succ _ _
          have hkn : d * (k + 1) ≤ d * n := Nat.mul_le_mul_left _ hlt
          have hjc : j' < d * n / 8 := by
            rw [Nat.lt_div_iff_mul_lt (by omega)]
            rw [Nat.mul_comm]
            omega
          have hgr : v' % 2 ^ 8 = grp 8 (num d f n) j' := by
            rw [← HL2.out ()]
            exact left_grp HF.out hlt (by omega)
          have hnx : left d f 8 (k + 1) (j' + 1) = v' / 2 ^ 8 := by rw [left_told, HL2.out ()]
          have hdv : v' / 2 ^ 8 < 2 ^ (q' - 8) := by
            rw [Nat.div_lt_iff_lt_mul (Nat.two_pow_pos _), ← Nat.pow_add, Nat.sub_add_cancel hge]; exact hvq'
          have hsr := (show (v' : Int) / 256 = ((v' / 2 ^ 8 : Nat) : Int) from shr_nat v' 8)
          have HG := Lib.hid (fun _ : Unit => hgr); have HNX := Lib.hid (fun _ : Unit => hnx)
          obtain ⟨V', hV'⟩ : ∃ V', v' / 2 ^ 8 = V' := ⟨_, rfl⟩
          rw [hV'] at hdv hsr
          have HV' := Lib.hid (fun _ : Unit => hV')
          have hdn : ¬ ((q' : Int) < (8 : Int)) := by omega
          have hge' : (8 : Int) ≤ (q' : Int) := by omega
          clear hgr hnx hV' hmul hkn
          gi_wp2_with fail
          refine ⟨trivial, rfl, ?_⟩
          refine (callsIn_wide.2 (lowest_nat 8 v' _ (by omega))).mono ?_
          rintro e' w1 ⟨rfl, rfl⟩
          rw [HG.out ()]
          obtain ⟨fn, tmps, assign, body, hy, hRr⟩ := HY.out j' wr hjc HJ2.out
          have HR9 := Lib.hid hRr
          clear hRr
          gi_wp2_with fail
          refine ⟨rfl, HR9.out.mono ?_⟩
          rintro e' W6 (⟨rfl, hJ6, hK6⟩ | ⟨rfl, hJx, hK6⟩)
          · have HJ6 := Lib.hid hJ6; have HK6 := Lib.hid (HK2.out.trans hK6)
            have cd3 := (World.cell?_of_block (w := W) (w' := W6) (a := ⟨bd, 0, none⟩) (HK6.out.block bd HBD fun e => (HX.out _ e).2.2.2.1 rfl)).trans HCD.out
            clear hJ6 hK6 cd2
            gi_wp2
            go_roundw
            case rel => exact ⟨j' + 1, q' - 8, V', by go_num, rfl, by rw [Nat.mul_succ]; omega, hdv, by omega, Lib.hid (fun _ => by rw [HNX.out (), HV'.out ()]), HJ6, HK6⟩
            case measure => simp [intOf]; omega
          · have HJx := Lib.hid hJx
            clear hJx hK6
            gi_wp2
            refine bodyPost_ret (results_none rfl _ _ _) rfl ?_
            exact ⟨⟨_, rfl⟩, .inr ⟨_, hjc, HJx.out⟩⟩
        · have hdn : (q' : Int) < (8 : Int) := by omega
          have hge' : ¬ ((8 : Int) ≤ (q' : Int)) := by omega
          gi_wp2
          go_roundw
          case rel => exact ⟨k + 1, j', q', v', by omega, by go_num, rfl, rfl, hjq', by omega, HL2, HJ2, HK2⟩
          case measure => simp [intOf]; omega
    · obtain rfl : k = n := by omega
      gi_wp2
      go_end0
      have hje : j = d * k / 8 := groups_end (by omega) (by omega)
      exact ⟨⟨_, rfl⟩, .inl (by rw [← hje]; exact HJ1.out)⟩
end Go.Proofs.YtdkhiooiakdecaaDoorR.Kp
