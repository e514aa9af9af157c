/- Walks: the document's Path. -/
import Derived.Test.YtakglldffpnlaaaGreatDoorRtRefT
namespace Go.Proofs.YtakglldffpnlaaaGreatDoor.Rt
set_option linter.all false
open Go.RowKit
open Sp (St cs3 pathL pathL_succ pathL_len cInfo one_cell is_step st_sized st_all upV)

theorem nil_cpx (w : World) (base : Nat) : w.ownsRow base 48 1 (.slice none 0 0) 0 [] := ⟨rfl, .inl ⟨rfl, rfl⟩⟩
theorem wpList_append_cpx {ops : Array Oper} {rest : List Oper} {o : Oper} {a : Act} {w : World} {Q : Exit → Act → World → Prop} (hgd : o.guard = none) (s x : Operand)
    (ho : o.op = .call { callee := .builtin .append, args := #[s, x], argTypes := #[45, 45] }) (base n : Nat) (v : Value) (xs : List Value) (u : Value) (hu : u.oneCell' = true) (W : World) (hw : w = W.alloc (.cells #[u] 48))
    (hs : a.eval s = v) (hx : a.eval x = .slice (some ⟨W.heap.size, 0, none⟩) 1 1) (hown : w.ownsRow base 48 1 v n xs) (hbd : n ≤ 1000) (hbase : base ≤ w.heap.size)
    (k : ∀ v' w', w'.ownsRow base 48 1 v' (n + 1) (xs ++ [u]) → w.grownBy w' v.ownBlock → wpList Tryz.prog ops Q rest (a.put o.dst v') w') :
    wpList Tryz.prog ops Q (o :: rest) a w := by
  refine wpList_plain hgd fun _ hK => ?_
  obtain ⟨i, hi, hz, hsz, hby⟩ := info_parts cInfo
  subst hw
  obtain ⟨v', w', hrun, h1, h2, h3, h4⟩ := run_append_own_at (P := Tryz.prog) (W.alloc (.cells #[u] 48)) base 45 o.type 48 i (.complex .f64 0 0) 1 16 Tryz.underlying45 hi hz hsz hby rfl (by omega) v n xs hown ⟨W.heap.size, 0, none⟩ 1 1 [u] rfl
    (one_cell W u) (by intro z hz'; simp at hz'; subst hz'; exact hu) (by unfold maxLen; omega) (by omega) hbase
  unfold Oper.wp execOp
  simp only [ho, resolve, invoke, builtin, Sem.run_bind, Sem.run_pure, Result.andThen_ok, List.map_toArray, List.map_cons, List.map_nil, hs, hx, hrun]
  exact hK _ _ (k v' w' h1 h2)
theorem own_slice_c {w : World} {base n : Nat} {e : TypeId} {v : Value} {xs : List Value} (h : w.ownsRow base e 1 v n xs) : ∃ A c, v = .slice A n c := by
  rcases h.2 with ⟨e, h0⟩ | ⟨g, c, cur, e, _⟩
  · subst h0; exact ⟨_, _, e⟩
  · exact ⟨_, _, e⟩
theorem below_own_c {w w1 w2 : World} {v : Value} {base n : Nat} {e : TypeId} {xs : List Value} (h : Below w.heap.size w w1) (ho : w1.ownsRow base e 1 v n xs) (hb : w.heap.size ≤ base) (k : w1.grownBy w2 v.ownBlock) : Below w.heap.size w w2 := by
  refine ⟨k.os.trans h.os, k.tape.trans h.tape, k.output.trans h.output, Nat.le_trans h.size k.size, fun i hi => (k.block i (Nat.lt_of_lt_of_le hi h.size) ?_).trans (h.block i hi)⟩
  rcases ho.2 with ⟨e, _⟩ | ⟨g, c, cur, e, hg, _⟩
  · subst e; intro e; cases e
  · subst e; intro e; injection e with e; have : i = g := e; omega
theorem own_ne {w : World} {v : Value} {base n i : Nat} {e : TypeId} {xs : List Value} (ho : w.ownsRow base e 1 v n xs) (hi : i < base) : some i ≠ v.ownBlock := by
  rcases ho.2 with ⟨e, _⟩ | ⟨g, c, cur, e, hg, _⟩
  · subst e; intro e; cases e
  · subst e; intro e; injection e with e; have : i = g := e; omega
def sliceN : Value → Nat
  | .slice _ n _ => n
  | _ => 0
/-- a document's path is under way -/
def PthI (w : World) (a d k : Nat) (v : Value) (W : World) : Prop :=
  St w.heap.size k (a / 2 ^ k : Nat) true W ∧ W.ownsRow (w.heap.size + 1) 48 1 v k (pathL a k) ∧ Below w.heap.size w W ∧ w.heap.size < W.heap.size

set_option maxHeartbeats 4000000 in
set_option maxRecDepth 100000 in
theorem rpath_is (a d : Nat) (w : World) (hd : d ≤ 16) (ha : a < 2 ^ d) :
    Calls Tryz.prog 22 #[.int .i64 (a : Int), .int .i64 (d : Int)] w fun e w' => ∃ v, e = .returned v ∧ w'.ownsRow w.heap.size 48 1 v d (pathL a d) ∧ Below w.heap.size w w' := by
  obtain ⟨m1, m2⟩ : 0 < 2 ^ d ∧ 2 ^ d ≤ 65536 := ⟨Nat.two_pow_pos d, Nat.le_trans (Nat.pow_le_pow_right (by decide) hd) (by decide)⟩
  have HA := Lib.hid (show a < 65536 by omega)
  obtain ⟨m, hm⟩ : ∃ m, 2 ^ d = m := ⟨_, rfl⟩
  have x1 : (2 : Int) ^ d = (m : Int) := by rw [← hm]; simp
  rw [hm] at m1 m2 ha
  have x3 : IntKind.i64.wrap (m : Int) = m := by rw [IntKind.wrap_i64]; omega
  have S0 := Sp.st_new w 0 a true
  have b0 := (Below.refl w.heap.size w).alloc (Nat.le_refl _) (.cells #[.int .i64 0, .int .i64 (a : Int), .bool true] 72)
  obtain ⟨w0, hw0⟩ : ∃ W, w.alloc (.cells #[.int .i64 0, .int .i64 (a : Int), .bool true] 72) = W := ⟨_, rfl⟩
  rw [hw0] at S0 b0
  have HS0 := Lib.hid S0; have HB0 := Lib.hid b0; have HL0 := Lib.hid S0.lt
  have z1 : decide ((d : Int) < 0) = false := by simp
  have z2 : decide (16 < (d : Int)) = false := by simp only [decide_eq_false_iff_not]; omega
  have z3 : decide ((a : Int) < 0) = false := by simp
  have z4 : decide ((m : Int) ≤ (a : Int)) = false := by simp only [decide_eq_false_iff_not]; omega
  have z5 : decide (m ≤ a) = false := by simp only [decide_eq_false_iff_not]; omega
  clear hm S0 b0
  go_enter Tryz.func22, Tryz.ntmps22
  go_wp2_with (rw [hw0])
  try rw [hw0]
  clear hw0 x1 x3 z1 z2 z3 z4 z5
  go_loopw [5] (fun v W => ∃ k : Nat, k ≤ d ∧ (∃ A c, v = .slice A k c) ∧ Hid (PthI w a d k v W)) (fun v _ => d - sliceN v)
  case atStart => exact ⟨0, by omega, ⟨none, 0, rfl⟩, Lib.hid ⟨by simpa using HS0.out, nil_cpx _ _, HB0.out, HL0.out⟩⟩
  case round =>
    obtain ⟨k, hk, ⟨A, c, rfl⟩, HP⟩ := hrel
    have c0 := HP.out.1.c0; have c1 := HP.out.1.c1; have c2 := HP.out.1.c2
    by_cases hkd : k < d
    case neg =>
      obtain rfl : k = d := by omega
      have yk : ¬ (k : Int) < (k : Int) := by omega
      go_wp2
      go_ret
      exact ⟨_, rfl, ⟨HP.out.2.1.1, by
        rcases HP.out.2.1.2 with h | ⟨g, c, cur, he, hb, rest⟩
        · exact .inl h
        · exact .inr ⟨g, c, cur, he, by omega, rest⟩⟩, HP.out.2.2.1⟩
    have yk : (k : Int) < (d : Int) := by omega
    obtain ⟨p, hp⟩ : ∃ p, a / 2 ^ k = p := ⟨_, rfl⟩
    rw [hp] at c1
    have hp16 : p < 65536 := by rw [← hp]; exact Nat.lt_of_le_of_lt (Nat.div_le_self _ _) HA.out
    have hup : upV (some (k, p)) = .agg #[.int .i64 ((k + 1 : Nat) : Int), .int .i64 ((p / 2 : Nat) : Int), .bool true] := by simp only [upV, if_neg (show ¬ k = 16 by omega)]
    have C1 := Lib.hid fun W => Sp.rup_some k p W (by omega) hp16
    rw [hup] at C1
    obtain ⟨k1, hk1⟩ : ∃ x, k + 1 = x := ⟨_, rfl⟩
    obtain ⟨p1, hp1⟩ : ∃ x, p / 2 = x := ⟨_, rfl⟩
    have hpp : a / 2 ^ k1 = p1 := by rw [← hk1, ← hp1, ← hp, Nat.pow_succ, ← Nat.div_div_eq_div_mul]
    rw [hk1, hp1] at C1
    obtain ⟨x, hx⟩ : ∃ x, Fl.fl k1 = x := ⟨_, rfl⟩
    obtain ⟨y, hy⟩ : ∃ y, Fl.fl p1 = y := ⟨_, rfl⟩
    have C2 := Lib.hid fun W => Sp.number_yes k1 p1 x y W ⟨hx, hy⟩
    have HPL : Hid (pathL a k ++ [.complex .f64 x y] = pathL a k1) := Lib.hid (by rw [← hk1, pathL_succ, hk1, hpp, hx, hy])
    have HPP := Lib.hid hpp; have HPK := Lib.hid hp; have HK1 := Lib.hid hk1
    clear hup hpp hx hy hp
    go_wp2_with fail
    refine (C1.out _).mono ?_
    rintro e' w1 ⟨rfl, hb⟩
    have s1 := HP.out.1.below hb
    have HS1 : Hid (St w.heap.size k p true w1) := Lib.hid (by rw [← show a / 2 ^ k = p from HPK.out]; exact s1)
    have HO1 := Lib.hid (Sp.row_below HP.out.2.1 hb); have HB1 := Lib.hid (HP.out.2.2.1.trans (hb.mono HP.out.2.2.1.size))
    have hr2 := setRow_heap w1 w.heap.size (cs3 k p true) (cs3 k1 p1 true) 72 _ HS1.out
    have hb2 := below_setRow HB1.out (Nat.le_refl _) (cs3 k1 p1 true)
    have hg2 : w1.grownBy (w1.setRow w.heap.size (cs3 k1 p1 true)) (some w.heap.size) := ⟨rfl, rfl, rfl, by simp [World.setRow], fun i hi hn => setRow_other w1 _ _ _ (by intro e; exact hn (by rw [e]))⟩
    obtain ⟨w2, hw2⟩ : ∃ W, w1.setRow w.heap.size (cs3 k1 p1 true) = W := ⟨_, rfl⟩
    rw [hw2] at hr2 hb2 hg2
    have HS2 : Hid (St w.heap.size k1 p1 true w2) := Lib.hid hr2
    have HO2 := Lib.hid (HO1.out.kept hg2 (.inr (by intro e; exact own_ne HO1.out (Nat.lt_succ_self _) e.symm)))
    have HB2 := Lib.hid hb2
    clear hb s1 hr2 hb2 hg2 c0 c1 c2
    have c0 := HS2.out.c0; have c1 := HS2.out.c1; have c2 := HS2.out.c2
    go_wp2_with (refine wpList_store_row rfl 72 (.tmp 6) (.tmp 30) rfl w.heap.size (cs3 k1 p1 true) rfl rfl 72 (cs3 k p true) HS1.out (st_sized _ _ _) rfl (st_all _ _ _) ?_; rw [hw2])
    refine (C2.out _).mono ?_
    rintro e' w3 ⟨rfl, hb⟩
    have HS3 := Lib.hid (HS2.out.below hb); have HO3 := Lib.hid (Sp.row_below HO2.out hb); have HB3 := Lib.hid (HB2.out.trans (hb.mono HB2.out.size))
    have ba := (Below.refl w3.heap.size w3).alloc (Nat.le_refl _) (.cells #[.complex .f64 x y] 48)
    have HSa := Lib.hid (HS3.out.below ba); have HBa := Lib.hid (HB3.out.trans (ba.mono HB3.out.size))
    have HL3 := Lib.hid HSa.out.lt
    clear hb ba hw2 c0 c1 c2
    go_wp2_with (at_builtin; refine wpList_append_cpx rfl (.tmp 31) (.tmp 34) rfl (w.heap.size + 1) k _ (pathL a k) (.complex .f64 x y) rfl w3 rfl rfl rfl (HO3.out.alloc _) (by omega) (Nat.succ_le_of_lt HL3.out) ?_)
    intro v' w4 hown hgrow
    have hne := own_ne (HO3.out.alloc (.cells #[.complex .f64 x y] 48)) (Nat.lt_succ_self _)
    have HS4 : Hid (St w.heap.size k1 p1 true w4) := Lib.hid ((hgrow.block w.heap.size HSa.out.lt hne).trans HSa.out)
    have HB4 := Lib.hid (below_own_c HBa.out (HO3.out.alloc (.cells #[.complex .f64 x y] 48)) (Nat.le_succ _) hgrow)
    try rw [HPL.out] at hown
    try rw [HK1.out] at hown
    obtain ⟨A4, c4, rfl⟩ := own_slice_c hown
    have HO4 := Lib.hid hown
    clear hown hgrow hne
    go_wp2
    go_roundw
    case rel => exact ⟨k1, by omega, ⟨A4, c4, rfl⟩, Lib.hid ⟨by rw [HPP.out]; exact HS4.out, HO4.out, HB4.out, HS4.out.lt⟩⟩
    case measure => simp [sliceN]; omega
end Go.Proofs.YtakglldffpnlaaaGreatDoor.Rt
