/- Common to the laws over sha2: sums, rows of one's own, appends. -/
import Derived.Test.YtfcnhendebjjeaaDoorShaWalkF
import Derived.Test.YtfcnhendebjjeaaDoorShaEval
import Derived.Lib.SlBytesConst
import Derived.IntWalk
import Derived.Deep.RegionHeld3
namespace Go.Proofs.YtfcnhendebjjeaaDoor.Sha
set_option linter.all false
open Go.RowKit

theorem own_cap {w : World} {base h n cap : Nat} {xs : List Value} (h1 : w.ownsRow base 5 1 (.slice (some ⟨h, 0, none⟩) n cap) n xs) : n ≤ cap ∧ cap ≤ maxLen := by
  rcases h1.2 with ⟨e, _⟩ | ⟨g, c, cur, e, _, _, h2, h3, _⟩
  · cases e
  · injection e with _ _ e3
    subst e3
    exact ⟨h2, h3⟩
theorem conv_take {w : World} {g n cap base k c : Nat} {bs : List Nat} (hown : w.ownsRow base 5 1 (.slice (some ⟨g, 0, none⟩) n cap) n (bcells bs)) (hk : k ≤ n) :
    (convert 22 9 (.slice (some ⟨g, 0, none⟩) k c)).run Tryd.prog w = .ok (.string (txt (bs.take k))) w := by
  have hl : bs.length = n := by have := hown.1; rw [bcells_len] at this; omega
  refine run_convert_bytes_arg (P := Tryd.prog) w 22 5 Tryd.underlying22 Tryd.underlying5 g 0 k c _ (by simp; omega) ?_ 9 Tryd.underlying9
  intro i hi
  rw [Nat.zero_add, hown.cellAt i (by omega), bcells_at bs i (by omega)]
  have : i < bs.length := by omega
  simp [gt, List.getD_eq_getElem?_getD, this, List.getElem?_take, hi]

/-- a sum: 32 bytes in a row of the call's own -/
def Summed (w : World) (bs : List Nat) (e : Ending) (w' : World) : Prop :=
  ∃ h cap, e = .returned (.slice (some ⟨h, 0, none⟩) 32 cap) ∧ w'.ownsRow w.heap.size 5 1 (.slice (some ⟨h, 0, none⟩) 32 cap) 32 (bcells bs) ∧ Below w.heap.size w w'

set_option maxHeartbeats 1000000 in
theorem sum_any (A : Option Addr) (bs : List Nat) (n c : Nat) (w : World) (hT : Tables w) (hR : Rd w w.heap.size A bs) (hn : bs.length = n) (hnc : n ≤ c) (hc : c ≤ 9223372036854775807) (hm : n ≤ 1000000) :
    Calls Tryd.prog 28 #[.slice A n c] w (Summed w (sum bs)) := by
  have h2 := hT.lt
  have HT := Lib.hid hT; have HR := Lib.hid hR; have HN := Lib.hid (fun _ : Unit => hn); clear hT hR hn
  generalize hX : sum bs = X
  have HX := Lib.hid (fun _ : Unit => hX); clear hX
  go_enter Tryd.func28, Tryd.ntmps28
  go_wp2_with fail
  refine (new_any _ HT.out).mono ?_
  rintro e' w1 ⟨rfl, hS, hB, hz⟩
  have HS := Lib.hid hS; have HB := Lib.hid hB; clear hS hB
  have HT1 := Lib.hid (HT.out.below HB.out h2)
  have HR1 := Lib.hid ((HR.out.below HB.out).apart (Nat.le_refl _) HB.out.size)
  go_wp2_with fail
  refine (write_any w.heap.size start A bs n c _ HS.out good_start HT1.out h2 HR1.out (HN.out ()) hnc hc (by show 0 + n ≤ _; omega)).mono ?_
  rintro e' w2 ⟨rfl, hS2, hG2⟩
  have HS2 := Lib.hid hS2; have HB2 := Lib.hid (below_of_only HB.out hG2 (Nat.le_refl _)); clear hS2 hG2
  have HT2 := Lib.hid (HT.out.below HB2.out h2)
  go_wp2_with fail
  refine (hsum_any w.heap.size _ _ HS2.out (good_takeAll bs good_start HR.out.1) HT2.out (by rw [takeAll_n, HN.out ()]; show 0 + n ≤ _; omega)).mono ?_
  rintro e' w3 ⟨h, cap, rfl, hown, hB3⟩
  have HOWN := Lib.hid hown; have HB3 := Lib.hid (HB2.out.trans (hB3.mono HB2.out.size)); clear hown hB3
  go_wp2
  go_ret
  refine ⟨h, cap, rfl, ?_, HB3.out⟩
  rw [← HX.out ()]
  exact own_lower HOWN.out HB2.out.size

theorem wpAnyH_more {P : Program} {md : Region.Mode} {ops : Array Oper} {Q : Exit → Act → World → Prop} {S S' : World → Prop} (h : ∀ w, S' w → S w) : ∀ (fuel : Nat) (listed : Array Bool) (a : Act) (w : World), wpAnyH P md ops Q S' fuel listed a w → wpAnyH P md ops Q S fuel listed a w
  | 0, _, _, _, h' => h'
  | fuel + 1, _, _, _, h' => ⟨h'.1, fun i hi => wpOp_mono (fun a' w' k => ⟨h _ k.1, wpAnyH_more h fuel _ a' w' k.2⟩) (h'.2 i hi)⟩
theorem rn_of_own {w : World} {base g n cap q : Nat} {xs : List Nat} (hown : w.ownsRow base 5 1 (.slice (some ⟨g, 0, none⟩) n cap) n (bcells xs)) (hx : ∀ j, gt xs j < 256) (hne : g ≠ q) : Rn w q (some ⟨g, 0, none⟩) xs := by
  have hl : xs.length = n := by have := hown.1; rw [bcells_len] at this; omega
  refine ⟨hx, fun _ => ⟨_, rfl, hne, (hown.lt g rfl).2, fun j hj => ?_⟩⟩
  have ha : (⟨g, 0, none⟩ : Addr).add j = ⟨g, j, none⟩ := by unfold Addr.add; split <;> simp_all
  rw [ha, hown.cellAt j (by omega), bcells_at xs j hj]
theorem own_below {w w' : World} {base B g n cap : Nat} {xs : List Value} (h : w.ownsRow base 5 1 (.slice (some ⟨g, 0, none⟩) n cap) n xs) (hb : Below B w w') (hB : w.heap.size ≤ B) : w'.ownsRow base 5 1 (.slice (some ⟨g, 0, none⟩) n cap) n xs :=
  h.kept ⟨hb.os, hb.tape, hb.output, hb.size, fun i hi _ => hb.block i (by omega)⟩ (.inr (by simp [Value.ownBlock] : Value.ownBlock _ ≠ none))

theorem slice_one (ad : Addr) (n c k c2 : Nat) (h : k < n) (hnc : n ≤ c) (hc2 : k + c2 = c) (w : World) :
    (Instr.slice 22 (.slice (some ad) n c) (some (.int .i64 (k : Int))) (some (.int .i64 ((k : Int) + 1))) none).run Tryd.prog w = .ok (.slice (some (ad.add k)) 1 c2) w := by
  have h1 : Tryd.prog.underlying 22 = some (.slice (Tryd.prog.elem 22)) := by kernel_rfl
  have h3 : Tryd.prog.elem 22 = 5 := by kernel_rfl
  have h4 : (Tryd.prog.info? 5).map (·.size) = some 1 := by kernel_rfl
  cases hq : Tryd.prog.info? 5 with
  | none => simp [hq] at h4
  | some i =>
    have hs1 : i.size = 1 := by simpa [hq] using h4
    rw [run_slice_lh (a := some ad) (len := n) (cap := c) (w := w) (t := 22) (ht := h1) .i64 .i64 (k : Int) ((k : Int) + 1) (by omega) (by omega) (by omega), h3]
    have e1 : ((k : Int) + 1).toNat - k = 1 := by omega
    have e2 : c - k = c2 := by omega
    have e3 : ¬ c = k := by omega
    simp [sizeOf, typeInfo, hq, hs1, sliced, e1, e2, e3]
theorem slice_head (ad : Addr) (n c k : Nat) (h : k < n) (hnc : n ≤ c) (w : World) :
    (Instr.slice 22 (.slice (some ad) n c) none (some (.int .i64 ((k : Int) + 1))) none).run Tryd.prog w = .ok (.slice (some ad) (k + 1) c) w := by
  have h1 : Tryd.prog.underlying 22 = some (.slice (Tryd.prog.elem 22)) := by kernel_rfl
  have h3 : Tryd.prog.elem 22 = 5 := by kernel_rfl
  have h4 : (Tryd.prog.info? 5).map (·.size) = some 1 := by kernel_rfl
  cases hq : Tryd.prog.info? 5 with
  | none => simp [hq] at h4
  | some i =>
    have hs1 : i.size = 1 := by simpa [hq] using h4
    rw [run_slice_h (a := some ad) (len := n) (cap := c) (w := w) (t := 22) (ht := h1) .i64 ((k : Int) + 1) (by omega) (by omega), h3]
    have e1 : ((k : Int) + 1).toNat = k + 1 := by omega
    have e4 : ad.add 0 = ad := rfl
    simp [sizeOf, typeInfo, hq, hs1, sliced, e1, e4]
theorem Rd.mid {w : World} {B : Nat} {ad : Addr} {bs : List Nat} (h : Rd w B (some ad) bs) (k : Nat) (hk : k < bs.length) : Rd w B (some (ad.add k)) [gt bs k] := by
  obtain ⟨ad', h1, h2, h3⟩ := h.2 (by omega)
  injection h1 with h1
  subst h1
  refine ⟨gt_lt_of_mem (by intro x hx; simp only [List.mem_cons, List.not_mem_nil, or_false] at hx; rw [hx]; exact h.1 k), fun _ => ⟨_, rfl, by rw [add_block]; exact h2, fun j hj => ?_⟩⟩
  have hj0 : j = 0 := by simp at hj; exact hj
  subst hj0
  rw [add_add, Nat.add_zero, h3 k hk, gt_cons_zero]
theorem Rd.upto {w : World} {B : Nat} {A : Option Addr} {bs : List Nat} (h : Rd w B A bs) (k : Nat) : Rd w B A (bs.take k) := by
  refine ⟨take_lt h.1 k, fun hn => ?_⟩
  rw [List.length_take] at hn
  obtain ⟨ad, h1, h2, h3⟩ := h.2 (by omega)
  refine ⟨ad, h1, h2, fun j hj => ?_⟩
  rw [List.length_take] at hj
  rw [h3 j (by omega), gt_take _ _ _ (by omega)]
/-- bytes of one's own, whatever they are by now -/
def Bytes (w : World) (g n : Nat) : Prop := ∃ cur : Array Value, w.heap[g]? = some (.cells cur 5 (0, 0)) ∧ ∀ i, i < n → ∃ z : Int, cur[i]? = some (.int .u8 z)
theorem Bytes.cell {w : World} {g n : Nat} (h : Bytes w g n) (i : Nat) (hi : i < n) : ∃ z : Int, w.cell? ⟨g, i, none⟩ = some (.int .u8 z) := by
  obtain ⟨cur, h1, h2⟩ := h
  obtain ⟨z, hz⟩ := h2 i hi
  exact ⟨z, by rw [cell_of_row w g i cur 5 (0, 0) h1, hz]⟩
theorem Bytes.frozen {w : World} {g n : Nat} (h : Bytes w g n) (i : Nat) : w.frozen? ⟨g, i, none⟩ = false := by
  obtain ⟨cur, h1, _⟩ := h
  simp [World.frozen?, h1]
theorem Bytes.set {w : World} {g n : Nat} (h : Bytes w g n) (i : Nat) (z : Int) : Bytes (w.setCell ⟨g, i, none⟩ (.int .u8 z)) g n := by
  obtain ⟨cur, h1, h2⟩ := h
  refine ⟨cur.setIfInBounds i (.int .u8 z), ?_, fun j hj => ?_⟩
  · rw [setCell_eq_setRow w g i cur 5 (0, 0) (.int .u8 z) h1]
    exact setRow_heap w g _ _ 5 _ h1
  · obtain ⟨y, hy⟩ := h2 j hj
    rw [Array.getElem?_setIfInBounds]
    by_cases e : i = j
    · subst e
      have : i < cur.size := by
        rcases Nat.lt_or_ge i cur.size with h | h
        · exact h
        · rw [Array.getElem?_eq_none h] at hy; cases hy
      exact ⟨z, by simp [this]⟩
    · exact ⟨y, by rw [if_neg e]; exact hy⟩
theorem Bytes.drew {w : World} {g n : Nat} (h : Bytes w g n) : Bytes w.drew g n := h
theorem bytes_of_own {w : World} {base g n cap : Nat} {xs : List Nat} (h : w.ownsRow base 5 1 (.slice (some ⟨g, 0, none⟩) n cap) n (bcells xs)) : Bytes w g n := by
  have hl : xs.length = n := by have := h.1; rw [bcells_len] at this; omega
  rcases h.2 with ⟨e, _⟩ | ⟨g', c, cur, e, _, hc, _, _, hs, ht⟩
  · cases e
  · injection e with e1 _ _
    have e2 : (⟨g, 0, none⟩ : Addr) = ⟨g', 0, none⟩ := Option.some.inj e1
    injection e2 with e3
    subst e3
    refine ⟨cur, hc, fun i hi => ⟨(gt xs i : Nat), ?_⟩⟩
    have h5 := bcells_at xs i (by omega)
    rw [← ht, Nat.mul_one, List.getElem?_take_of_lt hi, Array.getElem?_toList] at h5
    exact h5

/-- append onto a row of one's own, nil let in, of bytes that came in, nil let in -/
theorem wpList_append_gen {ops : Array Oper} {rest : List Oper} {o : Oper} {a : Act} {w : World} {Q : Exit → Act → World → Prop} (hgd : o.guard = none) (s x : Operand)
    (ho : o.op = .call { callee := .builtin .append, args := #[s, x], argTypes := #[22, 22] }) (base n m c B : Nat) (v : Value) (xs ys : List Nat) (A : Option Addr)
    (hs : a.eval s = v) (hx : a.eval x = .slice A m c)
    (hown : w.ownsRow base 5 1 v n (bcells xs)) (hR : Rd w B A ys) (hm : ys.length = m) (hc : A = none → c = 0) (hbd : n + m ≤ 1000000) (hbase : base ≤ w.heap.size)
    (k : ∀ v' w', w'.ownsRow base 5 1 v' (n + m) (bcells (xs ++ ys)) → w.grownBy w' v.ownBlock → wpList Tryd.prog ops Q rest (a.put o.dst v') w') :
    wpList Tryd.prog ops Q (o :: rest) a w := by
  obtain ⟨i, hi, hz, hsz, hby⟩ := byteInfo
  have key : ∃ v' w', (Builtin.append_ #[22, 22] o.type #[v, .slice A m c]).run Tryd.prog w = .ok v' w' ∧ w'.ownsRow base 5 1 v' (n + m) (bcells (xs ++ ys)) ∧ w.grownBy w' v.ownBlock := by
    cases A with
    | none =>
      have h0 : m = 0 := by
        rcases Nat.eq_zero_or_pos m with h | h
        · exact h
        · obtain ⟨ad, e, _⟩ := hR.2 (by omega)
          cases e
      have hy : ys = [] := List.eq_nil_of_length_eq_zero (by omega)
      have hc0 := hc rfl
      subst h0 hy hc0
      exact ⟨v, w, run_append_owned_none (P := Tryd.prog) (w := w) base 22 o.type 5 i 1 Tryd.underlying22 hi _ n (bcells xs) hown, by simpa using hown, World.grownBy.refl _ _⟩
    | some ad =>
      obtain ⟨v', w', hrun, h1, h2, _, _⟩ := run_append_own_at (P := Tryd.prog) w base 22 o.type 5 i (.int .u8 0) 1 1 Tryd.underlying22 hi hz hsz hby rfl (by omega) _ n (bcells xs) hown ad m c (bcells ys) (by rw [bcells_len]; omega)
        (news_of_rd hR) (bcells_one ys) (by unfold maxLen; omega) (by omega) hbase
      rw [← bcells_append] at h1
      exact ⟨v', w', hrun, h1, h2⟩
  obtain ⟨v', w', hrun, h1, h2⟩ := key
  refine wpList_plain hgd fun K hK => ?_
  unfold Oper.wp execOp
  simp only [ho, resolve, invoke, builtin, Sem.run_bind, Sem.run_pure, Result.andThen_ok, List.map_toArray, List.map_cons, List.map_nil, hs, hx, hrun]
  exact hK _ _ (k v' w' h1 h2)
/-- what owns a row is a slice, and is read as one -/
theorem own_slice {w : World} {base n : Nat} {v : Value} {xs : List Nat} (h : w.ownsRow base 5 1 v n (bcells xs)) (hx : ∀ j, gt xs j < 256) :
    ∃ (A : Option Addr) (c : Nat), v = .slice A n c ∧ (A = none → c = 0) ∧ n ≤ c ∧ c ≤ 9223372036854775807 ∧ Rd w w.heap.size A xs ∧ xs.length = n ∧ (∀ g, Value.ownBlock v = some g → base ≤ g ∧ g < w.heap.size) := by
  have hl : xs.length = n := by have := h.1; rw [bcells_len] at this; omega
  have h' := h
  rcases h.2 with ⟨e, h0⟩ | ⟨g, c, cur, e, hb, hc, h1, h2, _⟩
  · subst e h0
    have hx0 : xs = [] := List.eq_nil_of_length_eq_zero hl
    subst hx0
    exact ⟨none, 0, rfl, fun _ => rfl, by omega, by omega, Rd.nil _ _ _, rfl, fun g e => by cases e⟩
  · subst e
    refine ⟨some ⟨g, 0, none⟩, c, rfl, fun e => (by cases e), h1, h2, rd_of_own h' hx (Nat.le_refl _), hl, fun g' e => ?_⟩
    have e' : g = g' := Option.some.inj e
    subst e'
    exact h'.lt g rfl
theorem own_gen {w w' : World} {base n : Nat} {v : Value} {xs : List Value} (h : w.ownsRow base 5 1 v n xs) (hb : Below w.heap.size w w') : w'.ownsRow base 5 1 v n xs := by
  refine h.kept (row := none) ⟨hb.os, hb.tape, hb.output, hb.size, fun i hi _ => hb.block i hi⟩ ?_
  cases hq : v.ownBlock with
  | none => exact .inl rfl
  | some g => exact .inr (by simp)
theorem own_apart {w w' : World} {base n g : Nat} {v : Value} {xs : List Value} (h : w.ownsRow base 5 1 v n xs) (hg : w.grownBy w' (some g)) (hne : ∀ g', v.ownBlock = some g' → g' ≠ g) : w'.ownsRow base 5 1 v n xs := by
  refine h.kept hg ?_
  cases hq : v.ownBlock with
  | none => exact .inl rfl
  | some g' => exact .inr (by intro e; exact hne g' hq (Option.some.inj e))

end Go.Proofs.YtfcnhendebjjeaaDoor.Sha
