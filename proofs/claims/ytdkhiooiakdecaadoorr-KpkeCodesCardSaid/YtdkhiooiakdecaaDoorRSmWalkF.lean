/- Walks: turned, powers. -/
import Derived.Test.YtdkhiooiakdecaaDoorRSmWalkE
namespace Go.Proofs.YtdkhiooiakdecaaDoorR.Sm
open Go.RowKit
set_option linter.all false

/-- a byte of a constant string, at a variable index -/
theorem wpList_index_str {P : Program} {ops : Array Oper} {rest : List Oper} {o : Oper} {a : Act} {w : World} {Q : Exit → Act → World → Prop} (hgd : o.guard = none) (t : TypeId) (S : ByteArray) (x : Operand) (ho : o.op = .index t (.const (.string S)) x)
    (k : IntKind) (i : Nat) (hx : a.eval x = .int k (i : Int)) (hu : P.underlying t = some .string) (n : Nat) (v : Nat → Nat) (hs : S.size = n) (hi : i < n) (hv : ∀ i, i < n → (S.data.toList.getD i 0).toNat = v i)
    (h : wpList P ops Q rest (a.put o.dst (.int .u8 (v i : Nat))) w) : wpList P ops Q (o :: rest) a w := by
  refine wpList_plain hgd fun K hK => ?_
  have hsz : i < S.size := by omega
  have hr : (Instr.index t (.string S) (.int k (i : Int))).run P w = .ok (.int .u8 (v i : Nat)) w := by
    rw [run_index_string w t S k i hu, dif_pos ⟨by omega, by omega⟩]
    have h1 := hv i hi
    have h2 : S[i] = S.data.toList.getD i 0 := by
      have h3 : i < S.data.toList.length := by simpa using hsz
      rw [List.getD_eq_getElem?_getD, List.getElem?_eq_getElem h3]; rfl
    have h4 : (((i : Int).toNat) : Nat) = i := by omega
    simp only [h4]
    rw [h2, h1]
  have hc : a.eval (.const (.string S)) = .string S := rfl
  unfold Oper.wp execOp
  simp only [ho, hx, hc, hr, Sem.run_bind, Sem.run_pure, Result.andThen_ok]
  exact hK _ _ h

def rev8 (i : Nat) : Nat := 2 * tn i + i / 128 % 2
theorem rev8_lt (i : Nat) : rev8 i < 256 := by unfold rev8; have := tn_lt i; omega
def IsZ (cs : Array Value) : Prop := cs.size = 128 ∧ ∀ i, i < 128 → cs[i]? = some (.int .i64 (nv (zv i)))
theorem IsZ.cells {cs : Array Value} (h : IsZ cs) : cs.all (·.oneCell') = true := by
  rw [Array.all_eq_true]
  intro i hi
  have := h.2 i (by rw [← h.1]; exact hi)
  rw [Array.getElem?_eq_getElem hi] at this
  rw [Option.some.inj this]; rfl
def party (k : Nat) : Nat → Int := fun j => if tn j < k then nv (zv j) else 0
theorem party_succ {w : World} {b k : Nat} {t : TypeId} (hk : k < 128) (h : w.rowIs b t 128 (ints (party k))) : (w.setCell ⟨b, tn k, none⟩ (.int .i64 (nv (pw k)))).rowIs b t 128 (ints (party (k + 1))) :=
  row_is (row_set h _ _) fun j hj => by
    unfold party
    by_cases e : j = tn k
    · subst e; rw [if_pos rfl, tn_tn k hk, if_pos (by omega)]; unfold zv; rw [tn_tn k hk]
    · rw [if_neg e]
      have e' : tn j ≠ k := fun h => e (by rw [← h, tn_tn j hj])
      by_cases h : tn j < k
      · rw [if_pos h, if_pos (by omega)]
      · rw [if_neg h, if_neg (by omega)]
theorem red_pw (k : Nat) : red (nv (pw k) * 17) = pw (k + 1) := by
  rw [red_mul, red_nv]; rfl

end Go.Proofs.YtdkhiooiakdecaaDoorR.Sm
