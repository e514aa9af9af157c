/- Walks: Grow, Concat, Text. -/
import Derived.Test.YthjoafldndgahaaDoorWrWalkC
namespace Go.Proofs.YthjoafldndgahaaDoor.Wr
set_option linter.all false
open Go.RowKit Go.Lib

/-- room for n bytes, of nothing -/
def Room (n : Nat) (w : World) (e : Ending) (w' : World) : Prop :=
  ∃ g cap, e = .returned (.slice (some ⟨g, 0, none⟩) 0 cap) ∧ w'.ownsRow w.heap.size 5 1 (.slice (some ⟨g, 0, none⟩) 0 cap) 0 (bcells []) ∧ Below w.heap.size w w'
set_option maxHeartbeats 1000000 in
set_option maxRecDepth 100000 in
theorem grow_any (n : Nat) (w : World) (hn : 0 < n) (hm : n ≤ 16777216) :
    Calls Tryd.prog 35 #[.slice none 0 0, .int .i64 n] w (Room n w) := by
  obtain ⟨i, hi, hz, hsz, hby⟩ := byteInfo
  have hrz : ∀ ty, (Builtin.append_ #[22, 3] ty #[.slice none 0 0, .int .i64 n]).run Tryd.prog w =
      .ok (.slice (some ⟨w.heap.size, 0, none⟩) n (grownCap w n 0 5)) (w.drew.alloc (.cells (#[] ++ Builtin.zeroCells (Value.int .u8 0).cells n ++ Builtin.zeroCells (Value.int .u8 0).cells (grownCap w n 0 5 - n)) 5)) := fun ty => by
    have h := Lib.run_append_grow_zeros (P := Tryd.prog) w 22 3 ty 5 i (.int .u8 0) .i64 .i64 Tryd.underlying22 Tryd.underlying3 hi hz none 0 0 [] (run_firstCells_none w.drew i.size 0 0 0) n (by omega) (by omega) (by omega) (by omega)
      (by rw [hby]; omega) (by rw [hby]; exact growslice_fits (by omega) (by omega))
    simpa using h
  have hGn : n ≤ grownCap w n 0 5 := grownCap_ge w _ _ _
  have hGm := grownCap_le_maxLen w n 0 5 (by unfold maxLen; omega)
  obtain ⟨G, hG⟩ : ∃ G, G = grownCap w n 0 5 := ⟨_, rfl⟩
  rw [← hG] at hrz hGn hGm
  have hG63 : G ≤ 9223372036854775807 := by unfold maxLen at hGm; omega
  clear hG
  have y1 : ¬ (n : Int) < 0 := by omega
  have y2 : (0 : Int) < (n : Int) := by omega
  go_enter Tryd.func35, Tryd.ntmps35
  go_wp2_with (at_builtin; refine Lib.wpList_append_run _ rfl _ _ _ _ rfl _ _ rfl rfl _ _ (hrz _) ?_)
  go_ret
  refine ⟨w.heap.size, G, rfl, ⟨rfl, .inr ⟨w.heap.size, G, _, rfl, Nat.le_refl _, heap_alloc_last w _, Nat.zero_le _, hGm, ?_, rfl⟩⟩, ((Below.refl w.heap.size w).alloc (Nat.le_refl _) _).drew⟩
  rw [Array.size_append]
  simp [Builtin.zeroCells]
  omega

/-- append of a text onto a row of one's own, nil let in -/
theorem run_append_txt {w : World} (base n m c : Nat) (ty : TypeId) (v : Value) (xs ys : List Nat) (A : Option Addr) (S : Nat → Prop) (hown : w.ownsRow base 5 1 v n (bcells xs))
    (hT : Txt S w A m c ys) (hbd : n + m ≤ 140737488355328) (hbase : base ≤ w.heap.size) :
    ∃ v' w', (Builtin.append_ #[22, 22] ty #[v, .slice A m c]).run Tryd.prog w = .ok v' w' ∧ w'.ownsRow base 5 1 v' (n + m) (bcells (xs ++ ys)) ∧ w.grownBy w' v.ownBlock ∧ (v'.ownBlock = v.ownBlock ∨ v'.ownBlock = some w.heap.size) := by
  obtain ⟨i, hi, hz, hsz, hby⟩ := byteInfo
  obtain ⟨hR, hm, hmc, hc9, hc, hS⟩ := hT
  cases A with
  | none =>
    have hc0 := hc rfl
    obtain rfl : m = 0 := by omega
    have hy : ys = [] := List.eq_nil_of_length_eq_zero (by omega)
    subst hy hc0
    exact ⟨v, w, run_append_owned_none (P := Tryd.prog) (w := w) base 22 ty 5 i 1 Tryd.underlying22 hi _ n (bcells xs) hown, by simpa using hown, World.grownBy.refl _ _, .inl rfl⟩
  | some ad =>
    obtain ⟨v', w', hrun, h1, h2, h3, h4⟩ := run_append_own_at (P := Tryd.prog) w base 22 ty 5 i (.int .u8 0) 1 1 Tryd.underlying22 hi hz hsz hby rfl (by omega) _ n (bcells xs) hown ad m c (bcells ys) (by rw [bcells_len]; omega)
      (news_of_rd hR) (bcells_one ys) (by unfold maxLen; omega) (by omega) hbase
    rw [← bcells_append] at h1
    exact ⟨v', w', hrun, h1, h2, h4⟩
theorem wp_append_txt {o : Oper} {a : Act} {w : World} {K : Act → World → Prop} {Q : Exit → Act → World → Prop} (s x : Operand)
    (ho : o.op = .call { callee := .builtin .append, args := #[s, x], argTypes := #[22, 22] }) (base n m c : Nat) (v : Value) (xs ys : List Nat) (A : Option Addr) (S : Nat → Prop)
    (hs : a.eval s = v) (hx : a.eval x = .slice A m c) (hown : w.ownsRow base 5 1 v n (bcells xs)) (hT : Txt S w A m c ys) (hbd : n + m ≤ 140737488355328) (hbase : base ≤ w.heap.size)
    (k : ∀ v' w', w'.ownsRow base 5 1 v' (n + m) (bcells (xs ++ ys)) → w.grownBy w' v.ownBlock → (v'.ownBlock = v.ownBlock ∨ v'.ownBlock = some w.heap.size) → K (a.put o.dst v') w') :
    Oper.wp Tryd.prog o a w K Q := by
  obtain ⟨v', w', hrun, h1, h2, h3⟩ := run_append_txt base n m c o.type v xs ys A S hown hT hbd hbase
  unfold Oper.wp execOp
  simp only [ho, resolve, invoke, builtin, Sem.run_bind, Sem.run_pure, Result.andThen_ok, List.map_toArray, List.map_cons, List.map_nil, hs, hx, hrun]
  exact k v' w' h1 h2 h3
theorem wpList_append_txt {ops : Array Oper} {rest : List Oper} {o : Oper} {a : Act} {w : World} {Q : Exit → Act → World → Prop} (hgd : o.guard = none) (s x : Operand)
    (ho : o.op = .call { callee := .builtin .append, args := #[s, x], argTypes := #[22, 22] }) (base n m c : Nat) (v : Value) (xs ys : List Nat) (A : Option Addr) (S : Nat → Prop)
    (hs : a.eval s = v) (hx : a.eval x = .slice A m c) (hown : w.ownsRow base 5 1 v n (bcells xs)) (hT : Txt S w A m c ys) (hbd : n + m ≤ 140737488355328) (hbase : base ≤ w.heap.size)
    (k : ∀ v' w', w'.ownsRow base 5 1 v' (n + m) (bcells (xs ++ ys)) → w.grownBy w' v.ownBlock → (v'.ownBlock = v.ownBlock ∨ v'.ownBlock = some w.heap.size) → wpList Tryd.prog ops Q rest (a.put o.dst v') w') :
    wpList Tryd.prog ops Q (o :: rest) a w :=
  wpList_plain hgd fun _ hK => wp_append_txt s x ho base n m c v xs ys A S hs hx hown hT hbd hbase fun v' w' h1 h2 h3 => hK _ _ (k v' w' h1 h2 h3)
theorem own_slice_of {w : World} {base n : Nat} {v : Value} {xs : List Value} (h : w.ownsRow base 5 1 v n xs) : ∃ A c, v = .slice A n c := by
  rcases h.2 with ⟨e, h0⟩ | ⟨g, c, cur, e, _⟩
  · subst h0; exact ⟨_, _, e⟩
  · exact ⟨_, _, e⟩
theorem below_own {w w1 w2 : World} {v : Value} {base n : Nat} {xs : List Value} (h : Below w.heap.size w w1) (ho : w1.ownsRow base 5 1 v n xs) (hb : w.heap.size ≤ base) (k : w1.grownBy w2 v.ownBlock) : Below w.heap.size w w2 := by
  refine ⟨k.os.trans h.os, k.tape.trans h.tape, k.output.trans h.output, Nat.le_trans h.size k.size, fun i hi => (k.block i (Nat.lt_of_lt_of_le hi h.size) ?_).trans (h.block i hi)⟩
  rcases ho.2 with ⟨e, _⟩ | ⟨g, c, cur, e, hg, _⟩
  · subst e; intro e; cases e
  · subst e; intro e; injection e with e; have : i = g := e; omega

set_option maxHeartbeats 2000000 in
set_option maxRecDepth 100000 in
/-- two texts, one behind the other -/
theorem concat_any (A B : Option Addr) (a b : List Nat) (na ca nb cb : Nat) (h cc : Nat) (w : World) (hA : Txt Any w A na ca a) (hB : Txt Any w B nb cb b) (hna : 0 < na) (hma : na ≤ 16) (hmb : nb ≤ 4194304)
    (h0 : w.cell? ⟨h, 0, none⟩ = some (.slice A na ca)) (h1 : w.cell? ⟨h, 1, none⟩ = some (.slice B nb cb)) (had : h < w.heap.size) :
    Calls Tryd.prog 28 #[.slice (some ⟨h, 0, none⟩) 2 cc] w (Told (a ++ b) w) := by
  have HA := Lib.hid hA; have HB := Lib.hid hB; have H0 := Lib.hid h0; have H1 := Lib.hid h1
  have y0 : ¬ (na : Int) < 0 := by omega
  have y1 : ¬ (na : Int) + (nb : Int) < 0 := by omega
  go_enter Tryd.func28, Tryd.ntmps28
  go_wp2
  go_loopw [3, 11] (fun v i W => ∃ k : Nat, k ≤ 2 ∧ i = .int .i64 k ∧ (k = 0 → v = .int .i64 0) ∧ (k = 1 → v = .int .i64 na) ∧ (k = 2 → v = .int .i64 ((na + nb : Nat) : Int)) ∧ w = W) (fun _ i _ => 2 - (intOf i).toNat)
  case atStart => exact ⟨0, by omega, rfl, fun _ => rfl, fun h => by omega, fun h => by omega, rfl⟩
  case round =>
    obtain ⟨k, hk, rfl, hk0, hk1, hk2, rfl⟩ := hrel
    by_cases h2 : k = 2
    · subst h2
      obtain rfl := hk2 rfl
      clear hk0 hk1 hk2
      go_wp2_with fail
      refine (grow_any (na + nb) w (by omega) (by omega)).mono ?_
      rintro e' w1 ⟨g, cap, rfl, hown, hB1⟩
      have HO1 := Lib.hid hown; have HB1 := Lib.hid hB1; clear hown hB1
      go_wp2
      go_loopw [6, 27] (fun v i W => ∃ (k n c : Nat) (C : Option Addr) (xs : List Nat), k ≤ 2 ∧ i = .int .i64 k ∧ v = .slice C n c ∧ (k = 0 → xs = [] ∧ n = 0) ∧ (k = 1 → xs = a ∧ n = na) ∧ (k = 2 → xs = a ++ b) ∧ n ≤ 4194320 ∧ Hid (W.ownsRow w.heap.size 5 1 (.slice C n c) n (bcells xs)) ∧ Hid (Below w.heap.size w W)) (fun _ i _ => 2 - (intOf i).toNat)
      case atStart => exact ⟨0, 0, cap, _, [], by omega, rfl, rfl, fun _ => ⟨rfl, rfl⟩, fun h => by omega, fun h => by omega, by omega, HO1, HB1⟩
      case round =>
        obtain ⟨k, n, c, C, xs, hk, rfl, rfl, hk0, hk1, hk2, hn, HO, HB2⟩ := hrel
        have e : k = 0 ∨ k = 1 ∨ k = 2 := by omega
        rcases e with rfl | rfl | rfl
        · obtain ⟨rfl, rfl⟩ := hk0 rfl
          have c0 : wr.cell? ⟨h, 0, none⟩ = some (.slice A na ca) := by rw [HB2.out.cell (by exact had)]; exact H0.out
          have HA2 := Lib.hid (HA.out.below HB2.out)
          clear hk0 hk1 hk2
          go_wp2_with (at_builtin; refine wpList_append_txt rfl (.tmp 31) (.tmp 32) rfl w.heap.size 0 na ca _ [] a A Any rfl rfl HO.out HA2.out (by omega) HB2.out.size ?_)
          intro v' W2 hown hgrow hat
          obtain ⟨C', c', rfl⟩ := own_slice_of hown
          have HO3 := Lib.hid hown; have HB3 := Lib.hid (below_own HB2.out HO.out (Nat.le_refl _) hgrow); clear hown hgrow hat
          go_wp2
          go_roundw
          case rel => exact ⟨1, na, c', C', a, by omega, by go_num, rfl, fun h => by omega, fun _ => ⟨rfl, rfl⟩, fun h => by omega, by omega, HO3, HB3⟩
          case measure => simp [intOf]
        · obtain ⟨rfl, rfl⟩ := hk1 rfl
          have c0 : wr.cell? ⟨h, 1, none⟩ = some (.slice B nb cb) := by rw [HB2.out.cell (by exact had)]; exact H1.out
          have HB4 := Lib.hid (HB.out.below HB2.out)
          clear hk0 hk1 hk2
          go_wp2_with (at_builtin; refine wpList_append_txt rfl (.tmp 31) (.tmp 32) rfl w.heap.size n nb cb _ xs b B Any rfl rfl HO.out HB4.out (by omega) HB2.out.size ?_)
          intro v' W2 hown hgrow hat
          obtain ⟨C', c', rfl⟩ := own_slice_of hown
          have HO3 := Lib.hid hown; have HB3 := Lib.hid (below_own HB2.out HO.out (Nat.le_refl _) hgrow); clear hown hgrow hat
          go_wp2
          go_roundw
          case rel => exact ⟨2, n + nb, c', C', _, by omega, by go_num, rfl, fun h => by omega, fun h => by omega, fun _ => rfl, by omega, HO3, HB3⟩
          case measure => simp [intOf]
        · obtain rfl := hk2 rfl
          clear hk0 hk1 hk2
          go_wp2
          go_ret
          obtain ⟨A', c', e, hX⟩ := Txt.of_own HO.out (gt_append_lt HA.out.lt HB.out.lt)
          injection e with e1 _ e3
          subst e1 e3
          exact ⟨_, _, _, rfl, hX, HB2.out⟩
    · have e : k = 0 ∨ k = 1 := by omega
      rcases e with rfl | rfl
      · obtain rfl := hk0 rfl
        clear hk0 hk1 hk2
        go_wp2
        go_roundw
        case rel => exact ⟨1, by omega, by go_num, fun h => by omega, fun _ => by go_num, fun h => by omega, True.intro⟩
        case measure => simp [intOf]
      · obtain rfl := hk1 rfl
        clear hk0 hk1 hk2
        go_wp2
        go_roundw
        case rel => exact ⟨2, by omega, by go_num, fun h => by omega, fun h => by omega, fun _ => by go_num, True.intro⟩
        case measure => simp [intOf]
end Go.Proofs.YthjoafldndgahaaDoor.Wr
