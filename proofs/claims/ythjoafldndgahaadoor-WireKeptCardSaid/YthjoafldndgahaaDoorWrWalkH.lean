/- Walks: rows of texts of one's own; textsOf, GetList. -/
import Derived.Test.YthjoafldndgahaaDoorWrWalkG
namespace Go.Proofs.YthjoafldndgahaaDoor.Wr
set_option linter.all false
open Go.RowKit

/-- a row of texts of one's own, which lie in other blocks -/
def OwnL (w : World) (base : Nat) (v : Value) (n : Nat) (ls : List (List Nat)) : Prop :=
  ∃ vs : List Value, w.ownsRow base 22 1 v n vs ∧ ls.length = n ∧ ∀ j, j < n → ∃ Aj nj cj, vs[j]? = some (.slice Aj nj cj) ∧ Txt (fun b => base ≤ b ∧ b < w.heap.size ∧ v.ownBlock ≠ some b) w Aj nj cj (ls.getD j [])
theorem OwnL.nil (w : World) (base : Nat) : OwnL w base (.slice none 0 0) 0 [] := ⟨[], ⟨rfl, .inl ⟨rfl, rfl⟩⟩, rfl, fun j h => by omega⟩
theorem OwnL.slice {w : World} {base n : Nat} {v : Value} {ls : List (List Nat)} (h : OwnL w base v n ls) : ∃ A c, v = .slice A n c := by
  obtain ⟨vs, ho, _⟩ := h
  rcases ho.2 with ⟨e, h0⟩ | ⟨g, c, cur, e, _⟩
  · subst h0; exact ⟨_, _, e⟩
  · exact ⟨_, _, e⟩
theorem OwnL.lt {w : World} {base n g : Nat} {v : Value} {ls : List (List Nat)} (h : OwnL w base v n ls) (hg : v.ownBlock = some g) : base ≤ g ∧ g < w.heap.size := by
  obtain ⟨vs, ho, _⟩ := h
  exact ho.lt g hg
theorem own_below22 {w w' : World} {base n : Nat} {v : Value} {xs : List Value} (h : w.ownsRow base 22 1 v n xs) (hb : Below w.heap.size w w') : w'.ownsRow base 22 1 v n xs := by
  refine h.kept (row := none) ⟨hb.os, hb.tape, hb.output, hb.size, fun i hi _ => hb.block i hi⟩ ?_
  cases hq : v.ownBlock with
  | none => exact .inl rfl
  | some g => exact .inr (by simp)
theorem OwnL.below {w w' : World} {base n : Nat} {v : Value} {ls : List (List Nat)} (h : OwnL w base v n ls) (hb : Below w.heap.size w w') : OwnL w' base v n ls := by
  obtain ⟨vs, ho, hl, ht⟩ := h
  refine ⟨vs, own_below22 ho hb, hl, fun j hj => ?_⟩
  obtain ⟨Aj, nj, cj, hv, hT⟩ := ht j hj
  exact ⟨Aj, nj, cj, hv, (hT.below hb).mono fun b hb' => ⟨hb'.1, Nat.lt_of_lt_of_le hb'.2.1 hb.size, hb'.2.2⟩⟩
theorem OwnL.toL {w : World} {base n c : Nat} {A : Option Addr} {ls : List (List Nat)} (h : OwnL w base (.slice A n c) n ls) : TxtL (New base w) w A n c ls := by
  obtain ⟨vs, ho, hl, ht⟩ := h
  have ho' := ho
  rcases ho.2 with ⟨e, h0⟩ | ⟨g, cap, cur, e, hg, hc, h1, h2, h3, h4⟩
  · injection e with e1 e2 e3
    subst e1 e2 e3
    obtain rfl : ls = [] := List.eq_nil_of_length_eq_zero hl
    exact TxtL.nil _ _
  · injection e with e1 e2 e3
    subst e1 e3
    have hlt := ho'.lt g rfl
    refine ⟨hl, h1, h2, fun e => (by cases e), fun ad e => ?_, fun ad e j hj => ?_⟩
    · injection e with e
      subst e
      exact ⟨⟨hlt.1, hlt.2⟩, fun _ => hlt.2⟩
    · injection e with e
      subst e
      obtain ⟨Aj, nj, cj, hv, hT⟩ := ht j hj
      refine ⟨Aj, nj, cj, ?_, hT.mono fun b hb => ⟨hb.1, hb.2.1⟩⟩
      have ha : (⟨g, 0, none⟩ : Addr).add j = ⟨g, j, none⟩ := by unfold Addr.add; split <;> simp_all
      rw [ha, cell_of_row w g j cur 22 (0, 0) hc]
      rw [← h4, List.getElem?_take_of_lt (by omega), Array.getElem?_toList] at hv
      exact hv
theorem textInfo : ∃ i : TypeInfo, Tryd.prog.info? 22 = some i ∧ i.zero = some (.slice none 0 0) ∧ i.size = 1 ∧ i.bytes = 24 := by
  have h : (Tryd.prog.info? 22).map (fun i => (i.zero, i.size, i.bytes)) = some (some (.slice none 0 0), 1, 24) := by kernel_rfl
  obtain ⟨i, hi, e⟩ := Option.map_eq_some_iff.1 h
  simp only [Prod.mk.injEq] at e
  exact ⟨i, hi, e.1, e.2.1, e.2.2⟩
theorem run_append_one {w : World} (base k n c h : Nat) (ty : TypeId) (v : Value) (ls : List (List Nat)) (s : List Nat) (A : Option Addr) (hO : OwnL w base v k ls)
    (hT : Txt (fun b => base ≤ b ∧ b < w.heap.size ∧ v.ownBlock ≠ some b) w A n c s) (hh : w.cell? ⟨h, 0, none⟩ = some (.slice A n c)) (hk : k ≤ 8388608) (hbase : base ≤ w.heap.size) :
    ∃ v' w', (Builtin.append_ #[30, 30] ty #[v, .slice (some ⟨h, 0, none⟩) 1 1]).run Tryd.prog w = .ok v' w' ∧ OwnL w' base v' (k + 1) (ls ++ [s]) ∧ w.grownBy w' v.ownBlock := by
  obtain ⟨i, hi, hz, hsz, hby⟩ := textInfo
  obtain ⟨vs, ho, hl, ht⟩ := hO
  obtain ⟨v', w', hrun, h1, h2, h3, h4⟩ := run_append_own_at (P := Tryd.prog) w base 30 ty 22 i (.slice none 0 0) 1 24 Tryd.underlying30 hi hz hsz hby rfl (by omega) _ k vs ho ⟨h, 0, none⟩ 1 1 [.slice A n c] rfl
    (fun j u hu => by
      cases j with
      | zero => simp at hu; subst hu; exact hh
      | succ j => simp at hu)
    (fun u hu => by simp at hu; subst hu; rfl) (by unfold maxLen; omega) (by omega) hbase
  refine ⟨v', w', hrun, ⟨_, h1, by rw [List.length_append, hl]; rfl, fun j hj => ?_⟩, h2⟩
  have hvl : vs.length = k := by have := ho.1; omega
  have hS : ∀ b, (base ≤ b ∧ b < w.heap.size ∧ v.ownBlock ≠ some b) → base ≤ b ∧ b < w'.heap.size ∧ v'.ownBlock ≠ some b := by
    intro b hb
    refine ⟨hb.1, Nat.lt_of_lt_of_le hb.2.1 h2.size, ?_⟩
    rcases h4 with h4 | h4
    · rw [h4]; exact hb.2.2
    · rw [h4]; intro e; injection e with e; omega
  have hkeep : ∀ {A' n' c' s'}, Txt (fun b => base ≤ b ∧ b < w.heap.size ∧ v.ownBlock ≠ some b) w A' n' c' s' → Txt (fun b => base ≤ b ∧ b < w'.heap.size ∧ v'.ownBlock ≠ some b) w' A' n' c' s' := fun hT' =>
    (hT'.kept h2.size fun b hb hlt => h2.block b hlt (fun e => hb.2.2 e.symm)).mono hS
  by_cases hj' : j < k
  · obtain ⟨Aj, nj, cj, hv, hT'⟩ := ht j hj'
    refine ⟨Aj, nj, cj, by rw [List.getElem?_append_left (by omega)]; exact hv, ?_⟩
    have e : (ls ++ [s]).getD j [] = ls.getD j [] := by
      rw [List.getD_eq_getElem?_getD, List.getD_eq_getElem?_getD, List.getElem?_append_left (by omega)]
    rw [e]; exact hkeep hT'
  · obtain rfl : j = k := by omega
    refine ⟨A, n, c, by rw [List.getElem?_append_right (by omega), hvl]; simp, ?_⟩
    have e : (ls ++ [s]).getD j [] = s := by
      rw [List.getD_eq_getElem?_getD, List.getElem?_append_right (by omega), hl]; simp
    rw [e]; exact hkeep hT
theorem wpList_append_one {ops : Array Oper} {rest : List Oper} {o : Oper} {a : Act} {w : World} {Q : Exit → Act → World → Prop} (hgd : o.guard = none) (s x : Operand)
    (ho : o.op = .call { callee := .builtin .append, args := #[s, x], argTypes := #[30, 30] }) (base k n c h : Nat) (v : Value) (ls : List (List Nat)) (t : List Nat) (A : Option Addr)
    (hs : a.eval s = v) (hx : a.eval x = .slice (some ⟨h, 0, none⟩) 1 1) (hO : OwnL w base v k ls) (hT : Txt (fun b => base ≤ b ∧ b < w.heap.size ∧ v.ownBlock ≠ some b) w A n c t)
    (hh : w.cell? ⟨h, 0, none⟩ = some (.slice A n c)) (hk : k ≤ 8388608) (hbase : base ≤ w.heap.size)
    (kk : ∀ v' w', OwnL w' base v' (k + 1) (ls ++ [t]) → w.grownBy w' v.ownBlock → wpList Tryd.prog ops Q rest (a.put o.dst v') w') :
    wpList Tryd.prog ops Q (o :: rest) a w := by
  refine wpList_plain hgd fun K hK => ?_
  obtain ⟨v', w', hrun, h1, h2⟩ := run_append_one base k n c h o.type v ls t A hO hT hh hk hbase
  unfold Oper.wp execOp
  simp only [ho, resolve, invoke, builtin, Sem.run_bind, Sem.run_pure, Result.andThen_ok, List.map_toArray, List.map_cons, List.map_nil, hs, hx, hrun]
  exact hK _ _ (kk v' w' h1 h2)
theorem below_ownL {w w1 w2 : World} {v : Value} {base n : Nat} {ls : List (List Nat)} (h : Below w.heap.size w w1) (ho : OwnL w1 base v n ls) (hb : w.heap.size ≤ base) (k : w1.grownBy w2 v.ownBlock) : Below w.heap.size w w2 := by
  refine ⟨k.os.trans h.os, k.tape.trans h.tape, k.output.trans h.output, Nat.le_trans h.size k.size, fun i hi => (k.block i (Nat.lt_of_lt_of_le hi h.size) ?_).trans (h.block i hi)⟩
  intro e
  have := (ho.lt e.symm).1
  omega

/-- a list told, with an error -/
def GotLE (r : List (List Nat) × Nat) (w : World) (e : Ending) (w' : World) : Prop :=
  ∃ A n c, e = .returned (.tuple #[.slice A n c, .int .i64 r.2]) ∧ TxtL (New w.heap.size w') w' A n c r.1 ∧ Below w.heap.size w w'
theorem getT_ok {b : List Nat} (hb : ∀ j, gt b j < 256) {p : Nat} (hp : p ≤ b.length) (h : (getT b p).2.2 = 0) : p < (getT b p).2.1 ∧ (getT b p).2.1 ≤ b.length ∧ (txAt b p).2.2 = 0 := by
  unfold getT at h ⊢
  rw [txI_nat _ _ hp] at h ⊢
  by_cases h1 : (txAt b p).2.2 ≠ 0
  · rw [if_pos h1] at h; exact absurd h h1
  rw [if_neg h1] at h ⊢
  obtain ⟨k1, k2, k3, -, -⟩ := txAt_ok hb (by omega : (txAt b p).2.2 = 0)
  refine ⟨?_, k3, by omega⟩
  show p < (txAt b p).2.1
  omega
theorem txs_step {b : List Nat} {p f : Nat} {acc : List (List Nat)} (hp : p < b.length) (hf : b.length - p ≤ f) :
    txs b f p acc = if (getT b p).2.2 ≠ 0 then ([], (getT b p).2.2) else txs b (f - 1) (getT b p).2.1 (acc ++ [(getT b p).1]) := by
  obtain ⟨f', rfl⟩ : ∃ f', f = f' + 1 := ⟨f - 1, by omega⟩
  rw [Nat.add_sub_cancel]
  unfold getT
  rw [txI_nat _ _ (by omega)]
  conv => lhs; unfold txs
  rw [if_neg (by omega)]
  by_cases h1 : (txAt b p).2.2 ≠ 0
  · rw [if_pos h1, if_pos h1]
    rw [if_pos h1]
  · rw [if_neg h1, if_neg h1]
    rw [if_neg (by simp)]
theorem txs_end {b : List Nat} {p f : Nat} {acc : List (List Nat)} (hp : b.length ≤ p) : txs b f p acc = (acc, 0) := by
  cases f with
  | zero => rfl
  | succ f => unfold txs; rw [if_pos hp]

set_option maxHeartbeats 4000000 in
set_option maxRecDepth 100000 in
theorem textsOf_any (A : Option Addr) (b : List Nat) (n c : Nat) (w : World) (hT : Tables w) (hA : Txt Any w A n c b) (hn : n ≤ 8388608) (r : List (List Nat) × Nat) (hr : Hid (textsOf b = r)) :
    Calls Tryd.prog 34 #[.slice A n c] w (GotLE r w) := by
  have hlt := hT.lt
  have HTX := Lib.hid (show txs b n 0 [] = r by rw [← hA.len]; exact hr.out)
  have HA := Lib.hid hA; have HT := Lib.hid hT
  clear hA hT
  go_enter Tryd.func34, Tryd.ntmps34
  go_wp2
  go_loopw [4, 5] (fun v i W => ∃ (p k cC f : Nat) (C : Option Addr) (acc : List (List Nat)), i = .int .i64 p ∧ v = .slice C k cC ∧ p ≤ n ∧ k ≤ p ∧ n - p ≤ f ∧ Hid (OwnL W w.heap.size (.slice C k cC) k acc) ∧ Hid (txs b f p acc = r) ∧ Hid (Below w.heap.size w W)) (fun _ i _ => n - (intOf i).toNat)
  case atStart => exact ⟨0, 0, 0, n, none, [], rfl, rfl, by omega, by omega, by omega, Lib.hid (OwnL.nil _ _), HTX, Lib.hid (Below.refl _ _)⟩
  case round =>
    obtain ⟨p, k, cC, f, C, acc, rfl, rfl, hp, hkp, hf, HO, HX, HB⟩ := hrel
    by_cases hpn : p < n
    · have yp : (p : Int) < (n : Int) := by omega
      have HSTEP := Lib.hid (HX.out.symm.trans (txs_step (acc := acc) (by rw [HA.out.len]; exact hpn) (by rw [HA.out.len]; exact hf)))
      have HOK := Lib.hid (fun h => getT_ok HA.out.lt (p := p) (by rw [HA.out.len]; omega) h)
      obtain ⟨⟨s, to, er⟩, hG⟩ : ∃ t, getT b p = t := ⟨_, rfl⟩
      rw [hG] at HSTEP HOK
      have HG := Lib.hid hG; clear hG
      go_wp2_with fail
      refine (getText_any A b n c p wr (HT.out.below HB.out hlt) (HA.out.below HB.out) hn (s, to, er) HG).mono ?_
      rintro e' w1 ⟨A1, n1, c1, rfl, hX1, hB1⟩
      have HX1 := Lib.hid hX1; have HB1 := Lib.hid hB1; clear hX1 hB1
      have HB2 := Lib.hid (HB.out.trans (HB1.out.mono HB.out.size))
      by_cases he : er = 0
      · subst he
        obtain ⟨k1, k2, -⟩ := HOK.out rfl
        replace k1 : p < to := k1
        replace k2 : to ≤ b.length := k2
        rw [HA.out.len] at k2
        have HNX := Lib.hid (show txs b (f - 1) to (acc ++ [s]) = r by rw [HSTEP.out, if_neg (by simp)])
        have HA3 := Lib.hid ((Below.refl w1.heap.size w1).alloc (Nat.le_refl _) (.cells #[.slice A1 n1 c1] 22))
        have HO3 := Lib.hid ((HO.out.below HB1.out).below HA3.out)
        have HB3 := Lib.hid (HB2.out.alloc HB2.out.size (.cells #[.slice A1 n1 c1] 22))
        have hs0 := HB.out.size
        have hs1 := HB1.out.size
        have HX3 := Lib.hid ((HX1.out.below HA3.out).mono (S' := fun b => w.heap.size ≤ b ∧ b < (w1.alloc (.cells #[.slice A1 n1 c1] 22)).heap.size ∧ (Value.slice C k cC).ownBlock ≠ some b) fun b' hb => ⟨Nat.le_trans hs0 hb.1, Nat.lt_of_lt_of_le hb.2 HA3.out.size, fun e => by have := (HO.out.lt e).2; have := hb.1; omega⟩)
        have hc0 : (w1.alloc (.cells #[.slice A1 n1 c1] 22)).cell? ⟨w1.heap.size, 0, none⟩ = some (.slice A1 n1 c1) := by rw [cell_of_row _ _ 0 _ 22 (0, 0) (heap_alloc_last w1 _)]; rfl
        have HC0 := Lib.hid hc0; clear hc0
        go_wp2_with (at_builtin; refine wpList_append_one rfl (.tmp 23) (.tmp 25) rfl w.heap.size k n1 c1 w1.heap.size (.slice C k cC) acc s A1 rfl rfl HO3.out HX3.out HC0.out (by omega) HB3.out.size ?_)
        intro v' W2 hO4 hgrow
        obtain ⟨C', c', rfl⟩ := hO4.slice
        have HO4 := Lib.hid hO4; have HB4 := Lib.hid (below_ownL HB3.out HO3.out (Nat.le_refl _) hgrow); clear hO4 hgrow
        go_wp2
        go_roundw
        case rel => exact ⟨to, k + 1, c', f - 1, C', acc ++ [s], rfl, rfl, k2, by omega, by omega, HO4, HNX, HB4⟩
        case measure => simp [intOf]; omega
      · have HR := Lib.hid (show r = ([], er) by rw [HSTEP.out, if_pos he])
        have y2 : ¬ (er : Int) = 0 := by omega
        go_wp2
        go_ret2
        refine ⟨_, _, _, ?_, by rw [HR.out]; exact TxtL.nil _ _, HB2.out⟩
        rw [HR.out]; rfl
    · have yp : ¬ (p : Int) < (n : Int) := by omega
      have HR := Lib.hid (show r = (acc, 0) by rw [← HX.out]; exact txs_end (by rw [HA.out.len]; omega))
      go_wp2
      go_ret2
      refine ⟨_, _, _, ?_, by rw [HR.out]; exact HO.out.toL, HB.out⟩
      rw [HR.out]; rfl
end Go.Proofs.YthjoafldndgahaaDoor.Wr
