/- Walks: TrailingZeros, Len, At, Meet. -/
import Derived.Test.YtgpjlofdeidacaaDoorSpWalkD
namespace Go.Proofs.YtgpjlofdeidacaaDoor.Sp
set_option linter.all false
open Go.RowKit Fl

/-- a byte of a constant string, at a variable index -/
theorem wpList_index_str {P : Program} {ops : Array Oper} {rest : List Oper} {o : Oper} {a : Act} {w : World} {Q : Exit → Act → World → Prop} (hgd : o.guard = none) (t : TypeId) (S : ByteArray) (x : Operand) (ho : o.op = .index t (.const (.string S)) x)
    (k : IntKind) (i : Nat) (hx : a.eval x = .int k (i : Int)) (hu : P.underlying t = some .string) (n : Nat) (v : Nat → Nat) (hs : S.size = n) (hi : i < n) (hv : ∀ i, i < n → (S.data.toList.getD i 0).toNat = v i)
    (h : wpList P ops Q rest (a.put o.dst (.int .u8 (v i : Nat))) w) : wpList P ops Q (o :: rest) a w := by
  refine wpList_plain hgd fun K hK => ?_
  have hsz : i < S.size := by omega
  have hr : (Instr.index t (.string S) (.int k (i : Int))).run P w = .ok (.int .u8 (v i : Nat)) w := by
    rw [run_index_string w t S k i hu, dif_pos ⟨by omega, by omega⟩]
    have h1 := hv i hi
    have h2 : S[i] = S.data.toList.getD i 0 := by
      have h3 : i < S.data.toList.length := by simpa using hsz
      rw [List.getD_eq_getElem?_getD, List.getElem?_eq_getElem h3]; rfl
    have h4 : (((i : Int).toNat) : Nat) = i := by omega
    simp only [h4]
    rw [h2, h1]
  have hc : a.eval (.const (.string S)) = .string S := rfl
  unfold Oper.wp execOp
  simp only [ho, hx, hc, hr, Sem.run_bind, Sem.run_pure, Result.andThen_ok]
  exact hK _ _ h

theorem str_at {q n : Nat} (hq : q < n) (S : ByteArray) (v : Nat → Nat) (hS : ∀ i, i < n → (S.data.toList.getD i 0).toNat = v i) (h : q < S.size) : S[q].toNat = v q := by
  have h1 := hS q hq
  have h2 : S[q] = S.data.toList.getD q 0 := by
    have h3 : q < S.data.toList.length := by simpa using h
    rw [List.getD_eq_getElem?_getD, List.getElem?_eq_getElem h3]; rfl
  rw [h2, h1]
/-- how many bits a number has -/
def bl (n : Nat) : Nat := if n = 0 then 0 else n.log2 + 1
theorem bl_lt (n k : Nat) (h : n < 2 ^ k) : bl n ≤ k := by
  unfold bl
  split
  · omega
  · rename_i h0; have := (Nat.log2_lt h0).2 h; omega
theorem bl_spec (n : Nat) : n < 2 ^ bl n := by
  unfold bl
  split
  · subst_vars; decide
  · exact Nat.lt_log2_self
theorem bl_spec' (n : Nat) (h : n ≠ 0) : 2 ^ (bl n - 1) ≤ n := by
  unfold bl
  rw [if_neg h]
  simpa using Nat.log2_self_le h
theorem bl_byte (n : Nat) (h : n / 256 ≠ 0) : bl n = 8 + bl (n / 256) := by
  have h1 := bl_spec (n / 256)
  have h2 := bl_spec' (n / 256) h
  have hb : bl (n / 256) = bl (n / 256) - 1 + 1 := by unfold bl; rw [if_neg h]; omega
  have hn : n ≠ 0 := by omega
  unfold bl
  rw [if_neg hn, if_neg h]
  have e : n.log2 = (n / 256).log2 + 8 := by
    rw [Nat.log2_eq_iff hn]
    have a1 := Nat.log2_self_le h
    have a2 := Nat.lt_log2_self (n := n / 256)
    generalize (n / 256).log2 = k at *
    rw [Nat.pow_add, show k + 8 + 1 = (k + 1) + 8 by omega, Nat.pow_add, show 2 ^ 8 = 256 from rfl]
    omega
  omega

set_option maxHeartbeats 1000000 in
set_option maxRecDepth 100000 in
theorem len64_is (x n : Nat) (w : World) (hx : x < 65536) (hn : bl x = n) :
    Calls Tryd.prog 47 #[.int .u64 (x : Int)] w fun e w' => e = .returned (.int .i64 (n : Int)) ∧ w = w' := by
  have b0 := bl_lt x 16 hx
  have y1 : ¬ (4294967296 : Int) ≤ (x : Int) := by omega
  have y2 : ¬ (65536 : Int) ≤ (x : Int) := by omega
  by_cases h : x < 256
  · have y3 : ¬ (256 : Int) ≤ (x : Int) := by omega
    have y4 : ((x : Nat) : Int) % 256 = x := by omega
    rw [hn] at b0
    subst hn
    have H1 := Lib.hid hx; have H2 := Lib.hid h; have H3 := Lib.hid b0; have H4 := Lib.hid y4; clear hx h b0 y4
    go_enter Tryd.func47, Tryd.ntmps47
    go_wp2_with (refine wpList_index_str rfl _ _ (.tmp 21) rfl .u8 x rfl Tryd.underlying9 256 bl (by decide +kernel) H2.out (by decide +kernel) ?_; have b0 := H3.out)
    go_ret
    exact ⟨rfl, rfl⟩
  · have y3 : (256 : Int) ≤ (x : Int) := by omega
    obtain ⟨q, hq⟩ : ∃ q, x / 256 = q := ⟨_, rfl⟩
    have hb := bl_byte x (by omega)
    rw [hq, hn] at hb
    have x0 : (x : Int) / 256 = (q : Int) := by omega
    have hq2 : q < 256 := by omega
    have y4 : ((q : Nat) : Int) % 256 = q := by omega
    rw [hn] at b0
    have HN := Lib.hid hb
    clear hb
    have H1 := Lib.hid hx; have H2 := Lib.hid hq2; have H3 := Lib.hid b0; have H4 := Lib.hid y4; have H5 := Lib.hid x0
    clear hn hq hx h b0 y4 hq2 x0
    go_enter Tryd.func47, Tryd.ntmps47
    have x0 := H5.out
    have z1 : (q : Int) < 256 := by have := H2.out; omega
    go_wp2_with fail
    go_ret
    refine ⟨?_, rfl⟩
    have b0 := H3.out
    have hn := HN.out
    change Ending.returned (Value.int .i64 (wrap64 (8 + wrap64 ((UInt8.toNat _ : Nat) : Int)))) = _
    rw [str_at H2.out _ bl (by decide +kernel)]
    have h1 : wrap64 ((bl q : Nat) : Int) = (bl q : Nat) := by unfold wrap64; omega
    have h2 : wrap64 (8 + ((bl q : Nat) : Int)) = (n : Int) := by unfold wrap64; omega
    rw [h1, h2]
theorem len_is (x n : Nat) (w : World) (hx : x < 65536) (hn : bl x = n) :
    Calls Tryd.prog 38 #[.int .u64 (x : Int)] w fun e w' => e = .returned (.int .i64 (n : Int)) ∧ w = w' := by
  have C1 := Lib.hid (len64_is x n w hx hn)
  clear hn
  go_enter Tryd.func38, Tryd.ntmps38
  go_wp2_with (first | (go_at_call 47; refine C1.out.mono ?_; rintro e' w' ⟨rfl, rfl⟩) | go_in)
  go_ret
  exact ⟨rfl, rfl⟩

theorem i64_xor_small (a b : Nat) (ha : a < 65536) (hb : b < 65536) : bits .xor .i64 (a : Int) (b : Int) = ((a ^^^ b : Nat) : Int) := by
  have hx : a ^^^ b < 2 ^ 16 := Nat.xor_lt_two_pow (by omega) (by omega)
  show IntKind.i64.wrap ((BitVec.ofInt 64 (a : Int) ^^^ BitVec.ofInt 64 (b : Int)).toNat : Int) = _
  rw [BitVec.toNat_xor]
  have e1 : (BitVec.ofInt 64 (a : Int)).toNat = a := by rw [BitVec.toNat_ofInt]; omega
  have e2 : (BitVec.ofInt 64 (b : Int)).toNat = b := by rw [BitVec.toNat_ofInt]; omega
  rw [e1, e2, IntKind.wrap_i64]
  generalize a ^^^ b = c at *
  omega

/-- where two leaves meet -/
def meetF (a b : Nat) : Nat × Nat := (bl (a ^^^ b), a / 2 ^ bl (a ^^^ b))
set_option maxHeartbeats 1000000 in
theorem meet_is (a b x y : Nat) (w : World) (ha : a < 65536) (hb : b < 65536) (hw : Ws (meetF a b) x y) :
    Calls Tryd.prog 23 #[.int .i64 (a : Int), .int .i64 (b : Int)] w fun e w' => e = .returned (.complex .f64 x y) ∧ w = w' := by
  have c1 : ∀ (i : Nat) (w : World), i < 65536 → Calls Tryd.prog 35 #[.int .i64 (i : Int), .int .i64 16] w fun e w' => e = .returned (.bool true) ∧ w = w' := by
    intro i w hi
    have := leaf16 i w
    rwa [decide_eq_true (by omega)] at this
  have C1 := Lib.hid c1
  have x1 := i64_xor_small a b ha hb
  have hlt : a ^^^ b < 2 ^ 16 := Nat.xor_lt_two_pow (by omega) (by omega)
  unfold meetF at hw
  generalize a ^^^ b = c at *
  obtain ⟨l, hl⟩ : ∃ l, bl c = l := ⟨_, rfl⟩
  rw [hl] at hw
  have b1 : l ≤ 16 := by rw [← hl]; exact bl_lt c 16 hlt
  obtain ⟨p, hp⟩ : ∃ p, a / 2 ^ l = p := ⟨_, rfl⟩
  have x2 : (a : Int) / 2 ^ l = (p : Int) := by rw [← hp]; simp
  rw [hp] at hw
  have hc : c < 65536 := hlt
  have C2 := Lib.hid (len_is c l w hc hl)
  have C3 := Lib.hid (spotOf_is l p x y w hw)
  clear c1 hw hl hp hlt
  go_enter Tryd.func23, Tryd.ntmps23
  go_wp2_with (first | (go_at_call 35; refine (C1.out _ _ (by first | exact ha | exact hb)).mono ?_; rintro e' w' ⟨rfl, rfl⟩) | (go_at_call 38; refine C2.out.mono ?_; rintro e' w' ⟨rfl, rfl⟩) | (go_at_call 37; refine C3.out.mono ?_; rintro e' w' ⟨rfl, rfl⟩) | go_in)
  go_ret
  exact ⟨rfl, rfl⟩
end Go.Proofs.YtgpjlofdeidacaaDoor.Sp
