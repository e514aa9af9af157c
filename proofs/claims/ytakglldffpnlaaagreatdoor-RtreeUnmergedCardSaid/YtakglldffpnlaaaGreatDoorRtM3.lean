/- Walks: firstBlank, copied. Walks: Grow, Concat of ints, BinarySearch, withLeaf. Written by tools/mk_rtwith.py. Walks: withLeaf. Written by tools/mk_rtwith.py. -/
import Derived.Test.YtakglldffpnlaaaGreatDoorRtWalkL
import Derived.Test.YtakglldffpnlaaaGreatDoorRtOwnN
import Derived.Test.YtakglldffpnlaaaGreatDoorRtAddP
import Derived.OwnWalk
import Derived.Deep.DeepMust
namespace Go.Proofs.YtakglldffpnlaaaGreatDoor.Rt
set_option linter.all false
open Go.RowKit
open Wr (Txt Any New)

theorem tr_sized (D : Int) (A : Option Addr) (n c : Nat) : (Tryz.prog.info? 24).map (·.size) = some (#[Value.int .i64 D, .slice A n c] : Array Value).size := by
  rw [show (Tryz.prog.info? 24).map (·.size) = some 2 by kernel_rfl]; rfl
theorem tr_all (D : Int) (A : Option Addr) (n c : Nat) : (#[Value.int .i64 D, .slice A n c] : Array Value).all (·.oneCell') = true := by simp [Value.oneCell']
theorem nd_sized (q : NdQ) : (Tryz.prog.info? 28).map (·.size) = some q.cs.size := by
  rw [show (Tryz.prog.info? 28).map (·.size) = some 6 by kernel_rfl]; rfl
theorem nd_all (q : NdQ) : q.cs.all (·.oneCell') = true := by simp [NdQ.cs, Value.oneCell']

set_option maxHeartbeats 2000000 in
theorem firstBlank_is (d : Nat) (A : Option Addr) (n c : Nat) (ns : List Nd) (w : World) (hd : d ≤ 16) (hn : n = 2 ^ (d + 1) - 1) (hN : Nodes Any Any w A n c ns) :
    Calls Tryz.prog 30 #[.agg #[.int .i64 d, .slice A n c]] w fun e w' => e = .returned (.int .i64 (firstB ns d : Nat)) ∧ Below w.heap.size w w' := by
  obtain ⟨f1, f2, f3⟩ := firstB_is ns d
  have HF : Hid (∀ j : Nat, There ns d j ↔ (j < 2 ^ d ∧ (nd ns (2 * j)).kind ≠ 0)) := Lib.hid fun j => by
    unfold There
    rw [pow_eq, Int.toNat_natCast]
    constructor
    · intro h; exact ⟨by omega, h.2.2⟩
    · intro h; exact ⟨by omega, by omega, h.2⟩
  have H2 := Lib.hid f2; have H3 := Lib.hid f3; have H1 := Lib.hid f1
  have hp := (pow_bd d hd).2
  have hf65 : firstB ns d ≤ 65536 := by omega
  obtain ⟨f, hf⟩ : ∃ f, firstB ns d = f := ⟨_, rfl⟩
  rw [hf] at H1 H2 H3 hf65 ⊢
  obtain ⟨W0, hW0, g1, hB0⟩ := one_new w d A n c
  have B0 := Lib.hid hB0; have G1 := Lib.hid g1; have HN := Lib.hid (hN.below hB0); have HD := Lib.hid hd; have HL := Lib.hid hn
  have hlt := g1.lt
  clear f1 f2 f3 hf hB0 g1 hN hd hn hp
  go_enter Tryz.func30, Tryz.ntmps30
  go_wp2_with (fail)
  go_loopw [3] (fun i W => ∃ j : Nat, j ≤ f ∧ i = .int .i64 j ∧ Hid (Below W0.heap.size W0 W)) (fun i _ => f - (intOf i).toNat)
  case atStart => exact ⟨0, by omega, rfl, Lib.hid (Below.refl _ _)⟩
  case round =>
    obtain ⟨j, hj, rfl, HW⟩ := hrel
    obtain ⟨q0, q1⟩ := (G1.out.below HW.out hlt).cs
    by_cases hjf : j < f
    · have C3 := Lib.hid (isThere_is d A n c ns j true wr HD.out HL.out (HN.out.below HW.out) (by rw [HF.out j]; have := H1.out; simp; exact ⟨by omega, H2.out j hjf⟩))
      go_wp2_with (first | (go_at_call 38; refine C3.out.mono ?_; rintro e' w4 ⟨rfl, hb4⟩; have HW4 := Lib.hid (HW.out.trans (hb4.mono HW.out.size)); clear hb4) | go_in)
      go_roundw
      case rel => exact ⟨j + 1, by omega, by go_num, HW4⟩
      case measure => simp [intOf]; omega
    · obtain rfl : j = f := by omega
      have C3 := Lib.hid (isThere_is d A n c ns j false wr HD.out HL.out (HN.out.below HW.out) (by
        rw [HF.out j]; simp; intro h; exact H3.out h))
      go_wp2_with (first | (go_at_call 38; refine C3.out.mono ?_; rintro e' w4 ⟨rfl, hb4⟩; have HW4 := Lib.hid (B0.out.trans ((HW.out.trans (hb4.mono HW.out.size)).mono B0.out.size)); clear hb4) | go_in)
      go_ret
      exact ⟨rfl, HW4.out⟩

theorem OwnN.setRow {S : Nat → Prop} {w : World} {base g n c : Nat} {ns : List Nd} (h : OwnN S w base g n c ns) {b : Nat} (hb : b ≠ g) (hS : ¬ S b) (cs : Array Value) : OwnN S (w.setRow b cs) base g n c ns :=
  h.kept (by simp [World.setRow]) (setRow_other w b g cs (fun e => hb e.symm)) fun x hx _ => setRow_other w b x cs (fun e => hS (e ▸ hx))
/-- what copy makes of a new row -/
theorem run_copy_nodes (w : World) (ty : TypeId) (g N : Nat) (ad : Addr) (n c : Nat) (ns : List Nd) (S : Nat → Prop) (hN : Nodes Any Any w (some ad) n c ns) (hg : w.heap[g]? = some (.cells (madeCells (Value.agg zeroQ.cs).cells (N * 6)) 28 (0, 0))) (hn : n ≤ N) (base : Nat) (hbase : base ≤ g) (hm : N ≤ 9223372036854775807)
    (hS : ∀ b, S b → b ≠ g) (hF : ∀ j q, j < n → NdAt w (ad.add (j * 6)) q → NdFar S q) :
    ∃ w', (Builtin.copy_ #[22, 22] ty #[.slice (some ⟨g, 0, none⟩) N N, .slice (some ad) n c]).run Tryz.prog w = .ok (goInt n) w' ∧ OwnN S w' base g N N (ns ++ List.replicate (N - n) blank) ∧ w.grownBy w' (some g) := by
  obtain ⟨m, rfl⟩ := Nat.exists_eq_add_of_le hn
  rw [Nat.add_sub_cancel_left]
  obtain ⟨qs, hql, hqs⟩ := hN.list
  obtain ⟨i, hi, hz, hsz, _⟩ := nodeInfo
  have hml := made_flat (n + m)
  have hmin : Nat.min n (n + m) = n := Nat.min_eq_left hn
  have hlen : (madeCells (Value.agg zeroQ.cs).cells ((n + m) * 6)).size = (n + m) * 6 := size_madeCells _ _
  obtain ⟨cur, hcur⟩ : ∃ cur, madeCells (Value.agg zeroQ.cs).cells ((n + m) * 6) = cur := ⟨_, rfl⟩
  rw [hcur] at hg hml hlen
  have hfl : (flat qs).length = n * 6 := by rw [flat_len, hql]
  have hrun := run_copy_rows (P := Tryz.prog) w 22 22 ty 28 g 0 (n + m) (n + m) ad n c cur 28 (flat qs) 6 Tryz.underlying22 (by rw [hi, Option.map_some, hsz]) hg (by rw [hfl, hmin]) (flat_news fun j q hq => (hqs j q hq).2.1) (by rw [hfl, hlen]; omega) (flat_one qs)
  rw [hmin] at hrun
  obtain ⟨ps, hps⟩ : ∃ ps, ps = qs ++ List.replicate m zeroQ := ⟨_, rfl⟩
  have hpl : ps.length = n + m := by rw [hps, List.length_append, List.length_replicate, hql]
  have hpf : (flat ps).length = (n + m) * 6 := by rw [flat_len, hpl]
  have hl2 : cur.toList.take 0 ++ flat qs ++ cur.toList.drop (0 + (flat qs).length) = flat ps := by
    rw [List.take_zero, List.nil_append, Nat.zero_add, hps, flat_append, hml]
    refine congrArg (fun z => flat qs ++ z) ?_
    have e : List.replicate (n + m) zeroQ = List.replicate n zeroQ ++ List.replicate m zeroQ := (List.replicate_append_replicate ..).symm
    rw [e, flat_append, List.drop_left' (by rw [flat_len, hfl, List.length_replicate])]
  rw [hl2] at hrun
  have hown : (w.setRow g (flat ps).toArray).ownsRow base 28 6 (.slice (some ⟨g, 0, none⟩) (n + m) (n + m)) (n + m) (flat ps) :=
    ⟨hpf, .inr ⟨g, n + m, _, rfl, hbase, setRow_heap w g cur _ _ _ hg, Nat.le_refl _, hm, by rw [List.size_toArray, hpf], List.take_of_length_le (by rw [hpf]; exact Nat.le_refl _)⟩⟩
  refine ⟨_, hrun, ⟨hS, ps, hpl, by rw [List.length_append, List.length_replicate, hN.len], hown, fun j q hq => ?_⟩, ⟨rfl, rfl, rfl, by simp [World.setRow], fun k _ hk => setRow_other w g k _ (fun e => hk (by rw [e]))⟩⟩
  have hkeep : ∀ b, S b → b < w.heap.size → (w.setRow g (flat ps).toArray).heap[b]? = w.heap[b]? := fun b hb _ => setRow_other w g b _ (hS b hb)
  rw [hps] at hq
  rw [nd_append, hN.len]
  by_cases hj : j < n
  · rw [List.getElem?_append_left (by omega)] at hq
    rw [if_pos hj]
    exact ⟨(hqs j q hq).2.2.keep (hF j q hj (hqs j q hq).2.1) (by simp [World.setRow]) hkeep, hF j q hj (hqs j q hq).2.1⟩
  · rw [List.getElem?_append_right (by omega), List.getElem?_replicate] at hq
    split at hq
    · injection hq with hq
      subst hq
      rw [if_neg hj, nd_blank]
      exact ⟨NdIs.zero _ _, NdFar.zero _⟩
    · cases hq
theorem wp_copy_nodes {o : Oper} {a : Act} {w : World} {K : Act → World → Prop} {Q : Exit → Act → World → Prop} (s x : Operand)
    (ho : o.op = .call { callee := .builtin .copy, args := #[s, x], argTypes := #[22, 22] }) (g N : Nat) (ad : Addr) (n c : Nat) (ns : List Nd) (base : Nat)
    (hs : a.eval s = .slice (some ⟨g, 0, none⟩) N N) (hx : a.eval x = .slice (some ad) n c)
    (S : Nat → Prop) (hN : Nodes Any Any w (some ad) n c ns) (hg : w.heap[g]? = some (.cells (madeCells (Value.agg zeroQ.cs).cells (N * 6)) 28 (0, 0))) (hn : n ≤ N) (hbase : base ≤ g) (hm : N ≤ 9223372036854775807)
    (hS : ∀ b, S b → b ≠ g) (hF : ∀ j q, j < n → NdAt w (ad.add (j * 6)) q → NdFar S q)
    (k : ∀ w', OwnN S w' base g N N (ns ++ List.replicate (N - n) blank) → w.grownBy w' (some g) → K (a.put o.dst (goInt n)) w') :
    Oper.wp Tryz.prog o a w K Q := by
  obtain ⟨w', hrun, h1, h2⟩ := run_copy_nodes w o.type g N ad n c ns S hN hg hn base hbase hm hS hF
  unfold Oper.wp execOp
  simp only [ho, resolve, invoke, builtin, Sem.run_bind, Sem.run_pure, Result.andThen_ok, List.map_toArray, List.map_cons, List.map_nil, hs, hx, hrun]
  exact k w' h1 h2
theorem wpList_copy_nodes {ops : Array Oper} {rest : List Oper} {o : Oper} {a : Act} {w : World} {Q : Exit → Act → World → Prop} (hgd : o.guard = none) (s x : Operand)
    (ho : o.op = .call { callee := .builtin .copy, args := #[s, x], argTypes := #[22, 22] }) (g N : Nat) (ad : Addr) (n c : Nat) (ns : List Nd) (base : Nat)
    (hs : a.eval s = .slice (some ⟨g, 0, none⟩) N N) (hx : a.eval x = .slice (some ad) n c)
    (S : Nat → Prop) (hN : Nodes Any Any w (some ad) n c ns) (hg : w.heap[g]? = some (.cells (madeCells (Value.agg zeroQ.cs).cells (N * 6)) 28 (0, 0))) (hn : n ≤ N) (hbase : base ≤ g) (hm : N ≤ 9223372036854775807)
    (hS : ∀ b, S b → b ≠ g) (hF : ∀ j q, j < n → NdAt w (ad.add (j * 6)) q → NdFar S q)
    (k : ∀ w', OwnN S w' base g N N (ns ++ List.replicate (N - n) blank) → w.grownBy w' (some g) → wpList Tryz.prog ops Q rest (a.put o.dst (goInt n)) w') :
    wpList Tryz.prog ops Q (o :: rest) a w :=
  wpList_plain hgd fun _ hK => wp_copy_nodes s x ho g N ad n c ns base hs hx S hN hg hn hbase hm hS hF fun w' h1 h2 => hK _ _ (k w' h1 h2)

theorem at_one {w : World} {ad : Addr} {q q' : NdQ} (h : NdAt w ad q) (h' : NdAt w ad q') : q = q' := by
  have e : ∀ k, k < 6 → q.cs[k]? = q'.cs[k]? := fun k hk => by rw [← h k hk, ← h' k hk]
  have e0 := e 0 (by omega); have e1 := e 1 (by omega); have e2 := e 2 (by omega); have e3 := e 3 (by omega); have e4 := e 4 (by omega); have e5 := e 5 (by omega)
  obtain ⟨k, A1, n1, c1, A2, n2, c2, A3, n3, c3, A4, n4, c4, A5, n5, c5⟩ := q
  obtain ⟨k', A1', n1', c1', A2', n2', c2', A3', n3', c3', A4', n4', c4', A5', n5', c5'⟩ := q'
  simp at e0 e1 e2 e3 e4 e5
  simp [e0, e1, e2, e3, e4, e5]
/-- what nodes that were there have lies among what was there -/
theorem Nodes.farB {w w' : World} {A : Option Addr} {n c : Nat} {ns : List Nd} (hN : Nodes Any Any w A n c ns) (hb : Below w.heap.size w w') : ∀ ad, A = Option.some ad → ∀ j q, j < n → NdAt w' (ad.add (j * 6)) q → NdFar (fun b => b < w.heap.size) q := fun ad hA j q hj hat => by
  subst hA
  obtain ⟨q', h1, h2⟩ := hN.at j hj
  have hadl := (hN.2.2.2.2.1 ad rfl).2 (by omega)
  have h1' := h1.of_block (w' := w') (hb.block _ (by rw [Wr.add_block]; exact hadl))
  rw [at_one hat h1']
  exact h2.far

/-- .. where a later world is looked at -/
theorem Nodes.farT {S0 : Nat → Prop} {w w' : World} {A : Option Addr} {n c : Nat} {ns : List Nd} (hN : Nodes Any Any w A n c ns) (hF : ∀ ad, A = Option.some ad → ∀ j q, j < n → NdAt w (ad.add (j * 6)) q → NdFar S0 q) (hb : Below w.heap.size w w') : ∀ ad, A = Option.some ad → ∀ j q, j < n → NdAt w' (ad.add (j * 6)) q → NdFar S0 q := fun ad hA j q hj hat => by
  have hadl := (hN.2.2.2.2.1 ad hA).2 (by omega)
  have hbk : w'.heap[(ad.add (j * 6)).block]? = w.heap[(ad.add (j * 6)).block]? := hb.block _ (by rw [Wr.add_block]; exact hadl)
  exact hF ad hA j q hj (hat.of_block hbk.symm)
set_option maxHeartbeats 4000000 in
set_option maxRecDepth 100000 in
theorem copied_isB (S0 : Nat → Prop) (d e : Nat) (A : Option Addr) (n c : Nat) (ns : List Nd) (w : World) (hB : ∀ b, S0 b → b < w.heap.size) (hFB : ∀ ad, A = some ad → ∀ j q, j < n → NdAt w (ad.add (j * 6)) q → NdFar S0 q) (hde : d ≤ e) (he : e ≤ 16) (hn : n = 2 ^ (d + 1) - 1) (hN : Nodes Any Any w A n c ns) :
    Calls Tryz.prog 32 #[.agg #[.int .i64 d, .slice A n c], .int .i64 e] w fun e' w' => ∃ g, e' = .returned (.agg #[.int .i64 e, .slice (some ⟨g, 0, none⟩) (2 ^ (e + 1) - 1) (2 ^ (e + 1) - 1)]) ∧ OwnN S0 w' w.heap.size g (2 ^ (e + 1) - 1) (2 ^ (e + 1) - 1) (grow ns e) ∧ Below w.heap.size w w' := by
  have C1 := Lib.hid (nodes_is e · he)
  have h1 : 2 ^ (d + 1) ≤ 2 ^ (e + 1) := Nat.pow_le_pow_right (by decide) (by omega)
  have h2 := (pow_bd e he).2
  have h3 : 2 ^ (e + 1) = 2 * 2 ^ e := by rw [Nat.pow_succ]; omega
  have h0 := Nat.two_pow_pos (d + 1)
  have hg : grow ns e = ns ++ List.replicate (2 ^ (e + 1) - 1 - n) blank := by unfold grow; rw [hN.len]
  rw [hg]
  obtain ⟨N, hNN⟩ : ∃ N, 2 ^ (e + 1) - 1 = N := ⟨_, rfl⟩
  have hnN : n ≤ N := by omega
  have hNb : N ≤ 131072 := by omega
  rw [hNN] at C1 ⊢
  have hn1 : 0 < n := by
    have : 2 ^ (d + 1) = 2 * 2 ^ d := by rw [Nat.pow_succ]; omega
    have := Nat.two_pow_pos d
    omega
  obtain ⟨ad, rfl⟩ := hN.some hn1
  have hadl : ad.block < w.heap.size := (hN.2.2.2.2.1 ad rfl).2 hn1
  obtain ⟨i, hi, hz, hsz, hby, hby0⟩ := nodeInfo
  have hbN : (i.bytes : Int) * (N : Int) ≤ 281474976710656 := by
    have h5 : i.bytes * N ≤ 200 * 131072 := Nat.mul_le_mul hby hNb
    rw [← Int.natCast_mul]
    omega
  have hmk : ∀ W : World, (Instr.makeSlice 22 (.int .i64 (N : Int)) (.int .i64 (N : Int))).run Tryz.prog W = .ok (.slice (some ⟨W.heap.size, 0, none⟩) N N) (W.alloc (.cells (madeCells zeroQ.cs (N * 6)) 28)) := fun W => by
    have := run_make (P := Tryz.prog) W 22 28 i (.agg zeroQ.cs) Tryz.underlying22 hi hz .i64 .i64 (N : Int) (N : Int) (by omega) (by omega) hbN (by omega)
    rw [this, hsz, Int.toNat_natCast]; rfl
  have HN := Lib.hid hN
  obtain ⟨W0, hW0, g1, hB0⟩ := one_new w d (some ad) n c
  have hs0 : W0.heap.size = w.heap.size + 1 := by rw [← hW0]; simp
  obtain ⟨q0, q1⟩ := g1.cs
  obtain ⟨z1, hz1⟩ : ∃ z1, W0.alloc (.cells #[.int .i64 0, .slice none 0 0] 24) = z1 := ⟨_, rfl⟩
  obtain ⟨z2, hz2⟩ : ∃ z2, z1.alloc (.cells (madeCells zeroQ.cs (N * 6)) 28) = z2 := ⟨_, rfl⟩
  obtain ⟨z3, hz3⟩ : ∃ z3, z2.alloc (.cells #[.int .i64 e, .slice (some ⟨w.heap.size + 1 + 1, 0, none⟩) N N] 24) = z3 := ⟨_, rfl⟩
  have s1 : z1.heap.size = w.heap.size + 1 + 1 := by rw [← hz1, World.size_alloc, hs0]
  have s2 : z2.heap.size = w.heap.size + 1 + 1 + 1 := by rw [← hz2, World.size_alloc, s1]
  have b1 : Below W0.heap.size W0 z1 := by rw [← hz1]; exact below_one _ _
  have b2 : Below z1.heap.size z1 z2 := by rw [← hz2]; exact below_one _ _
  have b3 : Below z2.heap.size z2 z3 := by rw [← hz3]; exact below_one _ _
  have hB3 : Below w.heap.size w z3 := hB0.trans ((b1.trans ((b2.trans (b3.mono (by omega))).mono (by omega))).mono (by omega))
  have r1 : z3.heap[w.heap.size + 1]? = some (.cells #[.int .i64 0, .slice none 0 0] 24 (0, 0)) := by
    have h := heap_alloc_last W0 (.cells #[.int .i64 0, .slice none 0 0] 24)
    rw [hs0, hz1] at h
    rw [b3.block _ (by omega), b2.block _ (by omega)]; exact h
  have r2 : z3.heap[w.heap.size + 1 + 1]? = some (.cells (madeCells zeroQ.cs (N * 6)) 28 (0, 0)) := by
    have h := heap_alloc_last z1 (.cells (madeCells zeroQ.cs (N * 6)) 28)
    rw [s1, hz2] at h
    rw [b3.block _ (by omega)]; exact h
  have r3 : TrB e (some ⟨w.heap.size + 1 + 1, 0, none⟩) N N z3 (w.heap.size + 1 + 1 + 1) := by
    have h := heap_alloc_last z2 (.cells #[.int .i64 e, .slice (some ⟨w.heap.size + 1 + 1, 0, none⟩) N N] 24)
    rw [s2, hz3] at h
    exact h
  have HN3 := Lib.hid (hN.below hB3)
  have HF3 : Hid (∀ j q, j < n → NdAt z3 (ad.add (j * 6)) q → NdFar S0 q) := Lib.hid fun j q hj hat => by
    have hbk : z3.heap[(ad.add (j * 6)).block]? = w.heap[(ad.add (j * 6)).block]? := hB3.block _ (by rw [Wr.add_block]; exact hadl)
    exact hFB ad rfl j q hj (hat.of_block hbk.symm)
  have HBB := Lib.hid hB
  obtain ⟨u0, u1⟩ := r3.cs
  have q1' : z3.cell? ⟨w.heap.size, 1, none⟩ = some (.slice (some ad) n c) := (((g1.below b1 (by omega)).below b2 (by omega)).below b3 (by omega)).cs.2
  have HB3 := Lib.hid hB3; have R1 := Lib.hid r1; have R2 := Lib.hid r2; have R3 := Lib.hid r3
  have hs3 : w.heap.size + 1 + 1 + 1 < z3.heap.size := r3.lt
  clear hB hFB hde he hn hN h1 h2 h3 h0 hg hNN hi hz hsz hby hby0 g1 hB0 hbN hB3 r1 r2 r3 b1 b2 b3
  go_enter Tryz.func32, Tryz.ntmps32
  go_wp2_with (first
    | (go_at_call 46; refine (C1.out _).mono ?_; rintro e' w' ⟨rfl, rfl⟩)
    | (refine wpList_copy_nodes rfl (.tmp 12) (.tmp 14) rfl (w.heap.size + 1 + 1) N ad n c ns w.heap.size rfl rfl S0 HN3.out R2.out hnN (by omega) (by omega) (fun b hb => by have := HBB.out b hb; omega) HF3.out ?_)
    | go_in)
  intro w5 hO5 hg5
  have hlt5 : w.heap.size + 1 + 1 + 1 < w5.heap.size := Nat.lt_of_lt_of_le hs3 hg5.size
  have R1' := Lib.hid ((hg5.block (w.heap.size + 1) (by omega) (by intro e; injection e; omega)).trans R1.out)
  have r3' : TrB e (some ⟨w.heap.size + 1 + 1, 0, none⟩) N N w5 (w.heap.size + 1 + 1 + 1) := (hg5.block _ hs3 (by intro e; injection e; omega)).trans R3.out
  obtain ⟨t0, t1⟩ := r3'.cs
  have HO5 := Lib.hid hO5
  have HB5 := Lib.hid (Wr.below_of_only HB3.out hg5 (by omega))
  clear hO5 hg5 r3' q0 q1 hz1 hz2 hz3 u0 u1 q1'
  go_wp2_with (refine wpList_store_row rfl 24 (.tmp 4) (.tmp 16) rfl (w.heap.size + 1) #[.int .i64 e, .slice (some ⟨w.heap.size + 1 + 1, 0, none⟩) N N] rfl rfl 24 #[.int .i64 0, .slice none 0 0] R1'.out (tr_sized _ _ _ _) rfl (tr_all _ _ _ _) ?_)
  refine bodyPost_ret (v := .agg #[.int .i64 e, .slice (some ⟨w.heap.size + 1 + 1, 0, none⟩) N N]) (results_cell_row (p := 4) (ty := 24) (by kernel_rfl) _ _ (w.heap.size + 1) 24 _ (0, 0) _ rfl (setRow_heap _ _ _ _ _ _ R1'.out) Tryz.underlying24 rfl (tr_sized _ _ _ _)) rfl ?_
  exact ⟨w.heap.size + 1 + 1, rfl, HO5.out.setRow (by omega) (fun h => by have := HBB.out _ h; omega) _, below_setRow HB5.out (by omega) _⟩
end Go.Proofs.YtakglldffpnlaaaGreatDoor.Rt

namespace Go.Proofs.YtakglldffpnlaaaGreatDoor.Rt
set_option linter.all false
open Go.RowKit Go.Lib
open Wr (Txt Any New)

/-- room for n ints, of nothing -/
def RoomI (n : Nat) (w : World) (e : Ending) (w' : World) : Prop :=
  ∃ g cap, e = .returned (.slice (some ⟨g, 0, none⟩) 0 cap) ∧ w'.ownsRow w.heap.size 3 1 (.slice (some ⟨g, 0, none⟩) 0 cap) 0 (icells []) ∧ Below w.heap.size w w'
set_option maxHeartbeats 1000000 in
set_option maxRecDepth 100000 in
theorem grow_ints (n : Nat) (w : World) (hn : 0 < n) (hm : n ≤ 16777216) :
    Calls Tryz.prog 93 #[.slice none 0 0, .int .i64 n] w (RoomI n w) := by
  obtain ⟨i, hi, hz, hsz, hby⟩ := intInfo
  have hrz : ∀ ty, (Builtin.append_ #[26, 3] ty #[.slice none 0 0, .int .i64 n]).run Tryz.prog w =
      .ok (.slice (some ⟨w.heap.size, 0, none⟩) n (grownCap w n 0 3)) (w.drew.alloc (.cells (#[] ++ Builtin.zeroCells (Value.int .i64 0).cells n ++ Builtin.zeroCells (Value.int .i64 0).cells (grownCap w n 0 3 - n)) 3)) := fun ty => by
    have h := Lib.run_append_grow_zeros (P := Tryz.prog) w 26 3 ty 3 i (.int .i64 0) .i64 .i64 Tryz.underlying26 Tryz.underlying3 hi hz none 0 0 [] (run_firstCells_none w.drew i.size 0 0 0) n (by omega) (by omega) (by omega) (by omega)
      (by rw [hby]; omega) (by rw [hby]; exact growslice_fits (by omega) (by omega))
    simpa using h
  have hGn : n ≤ grownCap w n 0 3 := grownCap_ge w _ _ _
  have hGm := grownCap_le_maxLen w n 0 3 (by unfold maxLen; omega)
  obtain ⟨G, hG⟩ : ∃ G, G = grownCap w n 0 3 := ⟨_, rfl⟩
  rw [← hG] at hrz hGn hGm
  have hG63 : G ≤ 9223372036854775807 := by unfold maxLen at hGm; omega
  clear hG
  have y1 : ¬ (n : Int) < 0 := by omega
  have y2 : (0 : Int) < (n : Int) := by omega
  go_enter Tryz.func93, Tryz.ntmps93
  go_wp2_with (at_builtin; refine Lib.wpList_append_run _ rfl _ _ _ _ rfl _ _ rfl rfl _ _ (hrz _) ?_)
  go_ret
  refine ⟨w.heap.size, G, rfl, ⟨rfl, .inr ⟨w.heap.size, G, _, rfl, Nat.le_refl _, heap_alloc_last w _, Nat.zero_le _, hGm, ?_, rfl⟩⟩, ((Below.refl w.heap.size w).alloc (Nat.le_refl _) _).drew⟩
  rw [Array.size_append]
  simp [Builtin.zeroCells]
  omega


set_option maxHeartbeats 4000000 in
set_option maxRecDepth 100000 in
theorem concat3 (h : Nat) (A0 : Option Addr) (n0 c0 : Nat) (p0 : List Int) (A1 : Option Addr) (n1 c1 : Nat) (p1 : List Int) (A2 : Option Addr) (n2 c2 : Nat) (p2 : List Int) (cc : Nat) (w : World)
    (hh : w.heap[h]? = some (.cells #[.slice A0 n0 c0, .slice A1 n1 c1, .slice A2 n2 c2] 26 (0, 0))) (h0 : Ints Any w A0 n0 c0 p0) (h1 : Ints Any w A1 n1 c1 p1) (h2 : Ints Any w A2 n2 c2 p2) (hb : n0 ≤ 1000 ∧ n1 = 1 ∧ n2 ≤ 1000) :
    Calls Tryz.prog 64 #[.slice (some ⟨h, 0, none⟩) 3 cc] w (ToldI (p0 ++ p1 ++ p2) w) := by
  obtain ⟨b0, b1, b2⟩ := hb
  have hhl := (Array.getElem?_eq_some_iff.1 hh).1
  have HH := Lib.hid hh
  let A : Nat → Option Addr := fun j => if j = 0 then A0 else if j = 1 then A1 else A2
  let n : Nat → Nat := fun j => if j = 0 then n0 else if j = 1 then n1 else n2
  let c : Nat → Nat := fun j => if j = 0 then c0 else if j = 1 then c1 else c2
  let p : Nat → List Int := fun j => if j = 0 then p0 else if j = 1 then p1 else p2
  let s : Nat → Nat := fun j => if j = 0 then 0 else if j = 1 then n0 else if j = 2 then n0 + n1 else n0 + n1 + n2
  let q : Nat → List Int := fun j => if j = 0 then [] else if j = 1 then p0 else if j = 2 then p0 ++ p1 else p0 ++ p1 ++ p2
  have hP : ∀ j, j < 3 → w.cell? ⟨h, j, none⟩ = some (.slice (A j) (n j) (c j)) ∧ Ints Any w (A j) (n j) (c j) (p j) ∧ s (j + 1) = s j + n j ∧ q (j + 1) = q j ++ p j ∧ n j ≤ 1000 ∧ s j ≤ 2001 ∧ (q j).length = s j := by
    intro j hj
    have e : j = 0 ∨ j = 1 ∨ j = 2 := by omega
    have l0 := h0.len; have l1 := h1.len; have l2 := h2.len
    rcases e with rfl | rfl | rfl
    · refine ⟨by rw [cell_of_row w h 0 _ _ _ hh]; rfl, h0, ?_, ?_, b0, by simp [s], by simp [q, s]⟩ <;> simp [s, n, q, p]
    · refine ⟨by rw [cell_of_row w h 1 _ _ _ hh]; rfl, h1, ?_, ?_, by simp [n]; omega, by simp [s]; omega, by simp [q, s, l0]⟩ <;> simp [s, n, q, p]
    · refine ⟨by rw [cell_of_row w h 2 _ _ _ hh]; rfl, h2, ?_, ?_, b2, by simp [s]; omega, by simp [q, s, l0, l1]⟩ <;> simp [s, n, q, p]
  have hs3 : s 3 = n0 + n1 + n2 := rfl
  have hq3 : q 3 = p0 ++ p1 ++ p2 := rfl
  have hq0 : q 0 = [] := rfl
  have hs0 : s 0 = 0 := rfl
  have hsp : 0 < s 3 ∧ s 3 ≤ 2001 := by rw [hs3]; omega
  rw [← hq3]
  generalize q = q at *
  generalize s = s at *
  generalize A = A at *
  generalize n = n at *
  generalize c = c at *
  generalize p = p at *
  have HP := Lib.hid hP; have HQ0 := Lib.hid hq0; have HS0 := Lib.hid hs0
  have HG := Lib.hid (grow_ints (s 3) w hsp.1 (by omega))
  obtain ⟨sp1, sp2⟩ := hsp
  clear hP hq0 hs0 h0 h1 h2 b0 b1 b2 hh hs3 hq3
  go_enter Tryz.func64, Tryz.ntmps64
  go_wp2
  go_loopw [3, 11] (fun v i W => ∃ k : Nat, k ≤ 3 ∧ i = .int .i64 k ∧ v = .int .i64 (s k : Nat) ∧ w = W) (fun _ i _ => 3 - (intOf i).toNat)
  case atStart => exact ⟨0, by omega, rfl, by rw [HS0.out]; rfl, rfl⟩
  case round =>
    obtain ⟨k, hk, rfl, rfl, rfl⟩ := hrel
    by_cases hk3 : k < 3
    · have yk : (k : Int) < 3 := by omega
      obtain ⟨x1, x2, x3, x4, x5, x6, x7⟩ := HP.out k hk3
      have y1 : ¬ ((s k : Nat) : Int) + ((n k : Nat) : Int) < 0 := by omega
      have HX3 := Lib.hid x3
      clear x2 x3 x4 x7
      go_wp2
      go_roundw
      case rel => exact ⟨k + 1, by omega, by go_num, by rw [HX3.out]; simp, trivial⟩
      case measure => simp [intOf]; omega
    · obtain rfl : k = 3 := by omega
      go_wp2_with fail
      refine HG.out.mono ?_
      rintro e' w1 ⟨g, cap, rfl, hown, hB1⟩
      have HO1 := Lib.hid hown; have HB1 := Lib.hid hB1
      clear hown hB1
      go_wp2
      go_loopw [6, 27] (fun v i W => ∃ (k cc : Nat) (C : Option Addr), k ≤ 3 ∧ i = .int .i64 k ∧ v = .slice C (s k) cc ∧ Hid (W.ownsRow w.heap.size 3 1 (.slice C (s k) cc) (s k) (icells (q k))) ∧ Hid (Below w.heap.size w W)) (fun _ i _ => 3 - (intOf i).toNat)
      case atStart => exact ⟨0, cap, _, by omega, rfl, by rw [HS0.out], Lib.hid (by rw [HQ0.out, HS0.out]; exact HO1.out), HB1⟩
      case round =>
        obtain ⟨k, cc, C, hk, rfl, rfl, HO, HB2⟩ := hrel
        by_cases hk3 : k < 3
        · have yk : (k : Int) < 3 := by omega
          obtain ⟨x1, x2, x3, x4, x5, x6, x7⟩ := HP.out k hk3
          have c0 : wr.cell? ⟨h, k, none⟩ = some (.slice (A k) (n k) (c k)) := by rw [HB2.out.cell (by exact hhl)]; exact x1
          have HX := Lib.hid (x2.below HB2.out)
          have HX3 := Lib.hid x3; have HX4 := Lib.hid x4
          clear x1 x2 x3 x4 x7
          go_wp2_with (at_builtin; refine wpList_append_ints rfl (.tmp 31) (.tmp 32) rfl w.heap.size (s k) (n k) (c k) _ (q k) (p k) (A k) Any rfl rfl HO.out HX.out (by omega) HB2.out.size ?_)
          intro v' W2 hown hgrow hat
          obtain ⟨C', c', rfl⟩ := own_sliceG hown
          have HO3 := Lib.hid (by rw [← HX4.out, ← HX3.out] at hown; exact hown); have HB3 := Lib.hid (below_ownG HB2.out HO.out (Nat.le_refl _) hgrow)
          clear hown hgrow hat
          go_wp2
          go_roundw
          case rel => exact ⟨k + 1, c', C', by omega, by go_num, by rw [HX3.out], HO3, HB3⟩
          case measure => simp [intOf]; omega
        · obtain rfl : k = 3 := by omega
          go_wp2
          go_ret
          exact ⟨C, _, cc, rfl, Ints.of_own HO.out, HB2.out⟩

/-- how many are less -/
def pos (x : Int) : List Int → Nat
  | [] => 0
  | y :: l => if y < x then pos x l + 1 else 0
theorem ins_eq (x : Int) : ∀ l, ins x l = l.take (pos x l) ++ [x] ++ l.drop (pos x l)
  | [] => rfl
  | y :: l => by
    unfold ins pos
    split
    · rw [ins_eq x l]; simp
    · simp
theorem pos_le (x : Int) : ∀ l, pos x l ≤ l.length
  | [] => Nat.le_refl _
  | y :: l => by
    have := pos_le x l
    unfold pos
    split
    · simp; omega
    · simp
/-- which place it is -/
theorem pos_is (x : Int) : ∀ (l : List Int) (k : Nat), k ≤ l.length → (∀ i, i < k → gi l i < x) → (k < l.length → ¬ gi l k < x) → k = pos x l
  | [], k, hk, _, _ => by simp at hk; subst hk; rfl
  | y :: l, 0, hk, _, h2 => by
    have : ¬ y < x := h2 (by simp)
    unfold pos
    rw [if_neg this]
  | y :: l, k + 1, hk, h1, h2 => by
    have h0 : y < x := h1 0 (by omega)
    unfold pos
    rw [if_pos h0]
    have := pos_is x l k (by simpa using hk) (fun i hi => h1 (i + 1) (by omega)) (fun h => h2 (by simp; omega))
    omega
theorem rise_lt : ∀ {a : Int} {l : List Int}, Rise a l → ∀ i j, i < j → j < l.length → gi l i < gi l j
  | a, x :: l, h, 0, j + 1, _, hj => rise_gt h.2 _ (gi_mem (by simpa using hj))
  | a, x :: l, h, i + 1, j + 1, hij, hj => rise_lt h.2 i j (by omega) (by simpa using hj)

set_option maxHeartbeats 4000000 in
set_option maxRecDepth 100000 in
theorem search_is (U : Option Addr) (m cu : Nat) (un : List Int) (x : Int) (w : World) (hU : Ints Any w U m cu un) (hr : Rise (-1) un) (hx : ¬ x ∈ un) (hm : m ≤ 1000) :
    Calls Tryz.prog 63 #[.slice U m cu, .int .i64 x] w fun e w' => e = .returned (.tuple #[.int .i64 (pos x un : Nat), .bool false]) ∧ w = w' := by
  have HU := Lib.hid hU; have HR := Lib.hid hr; have HX := Lib.hid hx
  have hl := hU.len
  have HL := Lib.hid hl
  clear hU hr hx hl
  go_enter Tryz.func63, Tryz.ntmps63
  go_wp2
  go_loopw [7, 8] (fun lo hi W => ∃ a b : Nat, a ≤ b ∧ b ≤ m ∧ lo = .int .i64 a ∧ hi = .int .i64 b ∧ Hid (∀ i, i < a → gi un i < x) ∧ Hid (∀ i, b ≤ i → i < m → ¬ gi un i < x) ∧ w = W) (fun lo hi _ => (intOf hi).toNat - (intOf lo).toNat)
  case atStart => exact ⟨0, m, by omega, by omega, rfl, rfl, Lib.hid fun i h => by omega, Lib.hid fun i h1 h2 => by omega, rfl⟩
  case round =>
    obtain ⟨a, b, hab, hbm, rfl, rfl, HA, HB, rfl⟩ := hrel
    by_cases hlt : a < b
    · have ylt : (a : Int) < (b : Int) := by omega
      obtain ⟨h, hh⟩ : ∃ h, h = (a + b) / 2 := ⟨_, rfl⟩
      have hh1 : a ≤ h ∧ h < b := by omega
      have y1 : ((a : Int) + (b : Int)) / 2 = (h : Int) := by omega
      have y2 : ((a : Int) + (b : Int)) % 18446744073709551616 = (a : Int) + (b : Int) := by omega
      obtain ⟨ad, rfl⟩ := HU.out.some (by omega)
      have hc := HU.out.cell h (by omega)
      obtain ⟨z, hz⟩ : ∃ z, gi un h = z := ⟨_, rfl⟩
      have HZ := Lib.hid hz
      rw [hz] at hc
      have hhm : (h : Int) < (m : Int) := by omega
      clear hz hh
      by_cases hzx : z < x
      · go_wp2
        go_roundw
        case rel => exact ⟨h + 1, b, by omega, by omega, by go_num, rfl, Lib.hid fun i hi => by
          by_cases e : i = h
          · subst e; rw [HZ.out]; exact hzx
          · have := rise_lt HR.out i h (by omega) (by rw [HL.out]; omega)
            rw [HZ.out] at this; omega, HB, trivial⟩
        case measure => simp [intOf]; omega
      · go_wp2
        go_roundw
        case rel => exact ⟨a, h, by omega, by omega, rfl, rfl, HA, Lib.hid fun i h1 h2 => by
          by_cases e : i = h
          · subst e; rw [HZ.out]; exact hzx
          · have := rise_lt HR.out h i (by omega) (by rw [HL.out]; omega)
            rw [HZ.out] at this; omega, trivial⟩
        case measure => simp [intOf]; omega
    · obtain rfl : a = b := by omega
      have HP := Lib.hid (pos_is x un a (by rw [HL.out]; omega) HA.out (fun h => HB.out a (by omega) (by rw [HL.out] at h; exact h)))
      by_cases ham : a < m
      · have yam : (a : Int) < (m : Int) := by omega
        obtain ⟨ad, rfl⟩ := HU.out.some (by omega)
        have hc := HU.out.cell a ham
        have hne : (gi un a == x) = false := by rw [beq_eq_false_iff_ne]; intro e; exact HX.out (by rw [← e]; exact gi_mem (by rw [HL.out]; exact ham))
        obtain ⟨z, hz⟩ : ∃ z, gi un a = z := ⟨_, rfl⟩
        rw [hz] at hc hne
        clear hz
        go_wp2
        go_ret2
        rw [← HP.out]
        exact ⟨rfl, rfl⟩
      · have yam : ¬ (a : Int) < (m : Int) := by omega
        go_wp2
        go_ret2
        rw [← HP.out]
        exact ⟨rfl, rfl⟩

theorem Ints.cutHead {S : Nat → Prop} {w : World} {A : Option Addr} {n c : Nat} {xs : List Int} (h : Ints S w A n c xs) (k : Nat) (hk : k ≤ n) : Ints S w A k c (xs.take k) := by
  obtain ⟨h1, h2, h3, h4, h5, h6⟩ := h
  refine ⟨by rw [List.length_take]; omega, by omega, h3, h4, fun ad e => ⟨(h5 ad e).1, fun h => (h5 ad e).2 (by omega)⟩, fun ad e j hj => ?_⟩
  rw [h6 ad e j (by omega)]
  unfold gi
  rw [List.getD_eq_getElem?_getD, List.getD_eq_getElem?_getD, List.getElem?_take_of_lt hj]
theorem run_head_ints (A : Option Addr) (n c q : Nat) (hq : q ≤ n) (hnc : n ≤ c) (hA : A = none → c = 0) (w : World) :
    (Instr.slice 26 (.slice A n c) none (some (.int .i64 (q : Int))) none).run Tryz.prog w = .ok (.slice A q c) w := by
  have h1 : Tryz.prog.underlying 26 = some (.slice (Tryz.prog.elem 26)) := by kernel_rfl
  have h3 : Tryz.prog.elem 26 = 3 := by kernel_rfl
  obtain ⟨i, hi, hz, hsz, hby⟩ := intInfo
  rw [run_slice_h (a := A) (len := n) (cap := c) (w := w) (t := 26) (ht := h1) .i64 (q : Int) (by omega) (by omega), h3]
  cases A with
  | none =>
    have := hA rfl
    subst this
    obtain rfl : n = 0 := by omega
    obtain rfl : q = 0 := by omega
    simp [sizeOf, typeInfo, hi, hsz, sliced]
  | some ad =>
    have e4 : ad.add 0 = ad := rfl
    simp [sizeOf, typeInfo, hi, hsz, sliced, e4]
theorem run_tail_ints (A : Option Addr) (n c p : Nat) (hp : p ≤ n) (hnc : n ≤ c) (hc : c ≤ 9223372036854775807) (hA : A = none → c = 0) : ∃ VA VC, (∀ w : World, (Instr.slice 26 (.slice A n c) (some (.int .i64 (p : Int))) none none).run Tryz.prog w = .ok (.slice VA (n - p) VC) w) ∧
    ∀ (S : Nat → Prop) (w : World) (xs : List Int), Ints S w A n c xs → Ints S w VA (n - p) VC (xs.drop p) := by
  have h1 : Tryz.prog.underlying 26 = some (.slice (Tryz.prog.elem 26)) := by kernel_rfl
  have h3 : Tryz.prog.elem 26 = 3 := by kernel_rfl
  obtain ⟨i, hi, hz, hsz, hby⟩ := intInfo
  cases A with
  | none =>
    have := hA rfl
    subst this
    obtain rfl : n = 0 := by omega
    obtain rfl : p = 0 := by omega
    refine ⟨none, 0, fun w => ?_, fun S w xs h => ?_⟩
    · rw [run_slice_l (a := none) (len := 0) (cap := 0) (w := w) (t := 26) (ht := h1) .i64 ((0 : Nat) : Int) (by omega) (by omega), h3]
      simp [sizeOf, typeInfo, hi, hsz, sliced]
    · simpa using h
  | some ad =>
    refine ⟨if c = p then some ad else some (ad.add p), c - p, fun w => ?_, fun S w xs h => ?_⟩
    · rw [run_slice_l (a := some ad) (len := n) (cap := c) (w := w) (t := 26) (ht := h1) .i64 (p : Int) (by omega) (by omega), h3]
      simp [sizeOf, typeInfo, hi, hsz, sliced]
      try (split <;> rfl)
    · obtain ⟨g1, g2, g3, g4, g5, g6⟩ := h
      have hbl : (ad.add p).block = ad.block := by unfold Addr.add; split <;> rfl
      refine ⟨by rw [List.length_drop]; omega, by omega, by omega, fun e => (by split at e <;> cases e), fun ad' e => ?_, fun ad' e j hj => ?_⟩
      · split at e
        · injection e with e; subst e; exact ⟨(g5 ad rfl).1, fun h => (g5 ad rfl).2 (by omega)⟩
        · injection e with e; subst e; rw [hbl]; exact ⟨(g5 ad rfl).1, fun h => (g5 ad rfl).2 (by omega)⟩
      · have hne : ¬ c = p := by omega
        rw [if_neg hne] at e
        obtain rfl : ad.add p = ad' := Option.some.inj e
        have e9 : gi (xs.drop p) j = gi xs (p + j) := by
          unfold gi
          rw [List.getD_eq_getElem?_getD, List.getD_eq_getElem?_getD, List.getElem?_drop]
        rw [Wr.add_add, g6 ad rfl (p + j) (by omega), e9]

end Go.Proofs.YtakglldffpnlaaaGreatDoor.Rt

namespace Go.Proofs.YtakglldffpnlaaaGreatDoor.Rt
set_option linter.all false
open Go.RowKit Go.Lib
open Wr (Txt Any New)

set_option maxHeartbeats 4000000 in
set_option maxRecDepth 100000 in
theorem withLeaf_is (U : Option Addr) (m cu : Nat) (un : List Int) (x : Int) (w : World) (hU : Ints Any w U m cu un) (hr : Rise (-1) un) (hx : ¬ x ∈ un) (hm : m ≤ 1000) :
    Calls Tryz.prog 34 #[.slice U m cu, .int .i64 x] w (ToldI (ins x un) w) := by
  have C1 := Lib.hid (search_is U m cu un x w hU hr hx hm)
  have hpl := pos_le x un
  rw [hU.len] at hpl
  have hsl1 := run_head_ints U m cu (pos x un) hpl hU.2.1 hU.2.2.2.1
  obtain ⟨VA, VC, hsl2, hdr⟩ := run_tail_ints U m cu (pos x un) hpl hU.2.1 hU.2.2.1 hU.2.2.2.1
  have HE := Lib.hid (ins_eq x un)
  have HT : Hid (Ints Any w.drew U (pos x un) cu (un.take (pos x un))) := Lib.hid (show Ints Any w U _ cu _ from hU.cutHead _ hpl)
  have HDR : Hid (Ints Any w.drew VA (m - pos x un) VC (un.drop (pos x un))) := Lib.hid (show Ints Any w VA _ VC _ from hdr _ _ _ hU)
  have HTR : Hid True := Lib.hid trivial
  have hBd : Below w.heap.size w w.drew := (Below.refl _ _).drew
  have HBD := Lib.hid hBd
  have hpm : pos x un ≤ 1000 ∧ 1 = 1 ∧ m - pos x un ≤ 1000 := by omega
  obtain ⟨r, hr2⟩ : ∃ r, ins x un = r := ⟨_, rfl⟩
  obtain ⟨pk, hpk⟩ : ∃ pk, pos x un = pk := ⟨_, rfl⟩
  rw [hpk] at C1 hpl hsl1 hsl2 HE HT HDR hpm
  rw [hr2] at HE
  rw [hr2]
  obtain ⟨mp, hmp⟩ : ∃ mp, m - pk = mp := ⟨_, rfl⟩
  rw [hmp] at hsl2 HDR hpm
  obtain ⟨p0, hp0⟩ : ∃ p0, un.take pk = p0 := ⟨_, rfl⟩
  obtain ⟨p2, hp2⟩ : ∃ p2, un.drop pk = p2 := ⟨_, rfl⟩
  rw [hp0, hp2] at HE
  rw [hp0] at HT
  rw [hp2] at HDR
  clear hU hr hx hdr hBd hr2 hpk hmp hp0 hp2
  go_enter Tryz.func34, Tryz.ntmps34
  go_wp2_with (first | (go_at_call 63; refine C1.out.mono ?_; rintro e' w1 ⟨rfl, rfl⟩) | go_in)
  try simp only [Act.put]
  refine Wr.region_calm ?_
  refine wp_region_any (by kernel_rfl) ?_
  change wpAny _ _ _ _ _ _ _ (World.drew w)
  obtain ⟨wd, hwd⟩ : ∃ wd, w.drew = wd := ⟨_, rfl⟩
  rw [hwd] at HT HDR HBD
  rw [hwd]
  refine wpAny_of_held (S := fun _ => True) _ _ _ _ ?_
  refine wpAnyH_take (i := 0) (v := ?vd1) rfl (by kernel_rfl) (by kernel_rfl) (by kernel_rfl) (fun _ _ _ h => h) (Or.inl ⟨by rfl, ?yd1⟩) HTR.out ?rd1
  case yd1 => (intro w' hSw; clear hSw; go_simp; try with_reducible rfl)
  simp only [List.getElem_toArray, List.getElem_cons_succ, List.getElem_cons_zero, Act.put, List.setIfInBounds_toArray, List.set_cons_zero, List.set_cons_succ]
  refine wpAnyH_take (i := 1) (v := ?vd2) rfl (by kernel_rfl) (by kernel_rfl) (by kernel_rfl) (fun _ _ _ h => h) (Or.inl ⟨by rfl, ?yd2⟩) HTR.out ?rd2
  case yd2 => (intro w' hSw; clear hSw; go_simp; try with_reducible rfl)
  simp only [List.getElem_toArray, List.getElem_cons_succ, List.getElem_cons_zero, Act.put, List.setIfInBounds_toArray, List.set_cons_zero, List.set_cons_succ]
  refine wpAnyH_take (i := 2) (v := ?vd3) rfl (by kernel_rfl) (by kernel_rfl) (by kernel_rfl) (fun _ _ _ h => h) (Or.inl ⟨by rfl, ?yd3⟩) HTR.out ?rd3
  case yd3 => (intro w' hSw; clear hSw; go_simp; try with_reducible rfl)
  simp only [List.getElem_toArray, List.getElem_cons_succ, List.getElem_cons_zero, Act.put, List.setIfInBounds_toArray, List.set_cons_zero, List.set_cons_succ]
  refine wpAnyH_take (i := 3) (v := ?vd4) rfl (by kernel_rfl) (by kernel_rfl) (by kernel_rfl) (fun _ _ _ h => h) (Or.inl ⟨by rfl, ?yd4⟩) HTR.out ?rd4
  case yd4 => (intro w' hSw; clear hSw; go_simp; try with_reducible rfl)
  simp only [List.getElem_toArray, List.getElem_cons_succ, List.getElem_cons_zero, Act.put, List.setIfInBounds_toArray, List.set_cons_zero, List.set_cons_succ]
  refine wpAnyH_take (i := 5) (v := ?vd5) rfl (by kernel_rfl) (by kernel_rfl) (by kernel_rfl) (fun _ _ _ h => h) (Or.inl ⟨by rfl, ?yd5⟩) HTR.out ?rd5
  case yd5 => (intro w' hSw; clear hSw; go_simp; try with_reducible rfl)
  simp only [List.getElem_toArray, List.getElem_cons_succ, List.getElem_cons_zero, Act.put, List.setIfInBounds_toArray, List.set_cons_zero, List.set_cons_succ]
  refine wpAnyH_take (i := 6) (v := ?vd6) rfl (by kernel_rfl) (by kernel_rfl) (by kernel_rfl) (fun _ _ _ h => h) (Or.inl ⟨by rfl, ?yd6⟩) HTR.out ?rd6
  case yd6 => (intro w' hSw; clear hSw; go_simp; try with_reducible rfl)
  simp only [List.getElem_toArray, List.getElem_cons_succ, List.getElem_cons_zero, Act.put, List.setIfInBounds_toArray, List.set_cons_zero, List.set_cons_succ]
  refine wpAnyH_take (i := 7) (v := ?vd7) rfl (by kernel_rfl) (by kernel_rfl) (by kernel_rfl) (fun _ _ _ h => h) (Or.inl ⟨by rfl, ?yd7⟩) HTR.out ?rd7
  case yd7 => (intro w' hSw; clear hSw; go_simp; try with_reducible rfl)
  simp only [List.getElem_toArray, List.getElem_cons_succ, List.getElem_cons_zero, Act.put, List.setIfInBounds_toArray, List.set_cons_zero, List.set_cons_succ]
  refine wpAnyH_ready (rs := [4]) (by kernel_rfl) (by simp) ?_
  refine AllReadyH.cons rfl (fun K' hK => ?_) AllReadyH.nil
  simp only [List.getElem_toArray, List.getElem_cons_succ, List.getElem_cons_zero]
  go_simp
  have b1 := below_one wd (.cells #[.int .i64 x] 3)
  have i1 := one_int wd x
  obtain ⟨W1, hW1⟩ : ∃ W1, wd.alloc (.cells #[.int .i64 x] 3) = W1 := ⟨_, rfl⟩
  rw [hW1] at b1 i1
  rw [hW1]
  have hs1 : W1.heap.size = wd.heap.size + 1 := by rw [← hW1]; simp
  have B1 := Lib.hid b1; have I1 := Lib.hid i1
  clear hW1 b1 i1
  refine hK.out _ _ HTR.out (fun _ => ?_)
  clear hK
  try simp only [List.getElem_toArray, List.getElem_cons_succ, List.getElem_cons_zero, Act.put, List.setIfInBounds_toArray, List.set_cons_zero, List.set_cons_succ]
  refine wpAnyH_ready (rs := [8]) (by kernel_rfl) (by simp) ?_
  refine AllReadyH.cons rfl (fun K' hK => ?_) AllReadyH.nil
  simp only [List.getElem_toArray, List.getElem_cons_succ, List.getElem_cons_zero]
  go_simp
  have b2 := below_one W1 (.cells #[.slice U pk cu, .slice (some ⟨wd.heap.size, 0, none⟩) 1 1, .slice VA mp VC] 26)
  have h2 := heap_alloc_last W1 (.cells #[.slice U pk cu, .slice (some ⟨wd.heap.size, 0, none⟩) 1 1, .slice VA mp VC] 26)
  obtain ⟨W2, hW2⟩ : ∃ W2, W1.alloc (.cells #[.slice U pk cu, .slice (some ⟨wd.heap.size, 0, none⟩) 1 1, .slice VA mp VC] 26) = W2 := ⟨_, rfl⟩
  rw [hW2] at b2 h2
  rw [hW2]
  rw [hs1] at h2
  have B2 := Lib.hid b2; have H2 := Lib.hid h2
  have hz2 : wd.heap.size ≤ W2.heap.size := by have := b2.size; omega
  clear hW2 b2 h2
  refine hK.out _ _ HTR.out (fun _ => ?_)
  clear hK
  try simp only [List.getElem_toArray, List.getElem_cons_succ, List.getElem_cons_zero, Act.put, List.setIfInBounds_toArray, List.set_cons_zero, List.set_cons_succ]
  refine wpAnyH_ready (rs := [9]) (by kernel_rfl) (by simp) ?_
  refine AllReadyH.cons rfl (fun K' hK => ?_) AllReadyH.nil
  simp only [List.getElem_toArray, List.getElem_cons_succ, List.getElem_cons_zero]
  go_simp
  refine (concat3 (wd.heap.size + 1) U pk cu p0 (some ⟨wd.heap.size, 0, none⟩) 1 1 [x] VA mp VC p2 3 W2 H2.out ((HT.out.below B1.out).below B2.out) (I1.out.below B2.out) ((HDR.out.below B1.out).below B2.out) (by omega)).mono ?_
  rintro e' W3 ⟨A3, n3, c3, rfl, hI3, hb3⟩
  have HI3 := Lib.hid (hI3.mono (fun b hb => (⟨by have := hb.1; omega, hb.2⟩ : New wd.heap.size W3 b)))
  have B3 := Lib.hid ((B1.out.trans (B2.out.mono (by omega))).trans (hb3.mono hz2))
  clear hI3 hb3
  refine hK.out _ _ HTR.out (fun _ => ?_)
  clear hK
  try simp only [List.getElem_toArray, List.getElem_cons_succ, List.getElem_cons_zero, Act.put, List.setIfInBounds_toArray, List.set_cons_zero, List.set_cons_succ]
  refine wpAnyH_take (i := 10) (v := ?vd8) rfl (by kernel_rfl) (by kernel_rfl) (by kernel_rfl) (fun _ _ _ h => h) (Or.inl ⟨by rfl, ?yd8⟩) HTR.out ?rd8
  case yd8 => (intro w' hSw; clear hSw; go_simp; try with_reducible rfl)
  simp only [List.getElem_toArray, List.getElem_cons_succ, List.getElem_cons_zero, Act.put, List.setIfInBounds_toArray, List.set_cons_zero, List.set_cons_succ]
  refine wpAnyH_done (by kernel_rfl) ?_ _
  change Exit.then _ _ Exit.normal _ _
  go_wp2
  go_ret
  rw [HE.out]
  exact ⟨A3, n3, c3, rfl, HI3.out.mono fun b hb => ⟨by have := hb.1; have := HBD.out.size; omega, hb.2⟩, HBD.out.trans (B3.out.mono HBD.out.size)⟩
end Go.Proofs.YtakglldffpnlaaaGreatDoor.Rt
