/- Walks: Expand. -/
import Derived.Test.YtfcnhendebjjeaaDoorHkWalkE
import Derived.Laws.OwnMore
namespace Go.Proofs.YtfcnhendebjjeaaDoor.Sha
set_option linter.all false
open Go.RowKit Iter Go.Shelf
attribute [local go_sem] Oper.semAt_some

theorem run_append_fit {w : World} (base g n cap m c B : Nat) (ty : TypeId) (xs ys : List Nat) (ad : Addr) (hown : w.ownsRow base 5 1 (.slice (some ⟨g, 0, none⟩) n cap) n (bcells xs))
    (hR : Rd w B (some ad) ys) (hm : ys.length = m) (hfit : n + m ≤ cap) :
    ∃ w', (Builtin.append_ #[22, 22] ty #[.slice (some ⟨g, 0, none⟩) n cap, .slice (some ad) m c]).run Tryd.prog w = .ok (.slice (some ⟨g, 0, none⟩) (n + m) cap) w' ∧
      w'.ownsRow base 5 1 (.slice (some ⟨g, 0, none⟩) (n + m) cap) (n + m) (bcells (xs ++ ys)) ∧ w.grownBy w' (some g) := by
  obtain ⟨i, hi, hz, hsz, hby⟩ := byteInfo
  obtain ⟨w', h1, h2, h3⟩ := run_append_fits (P := Tryd.prog) w base 22 ty 5 i 1 Tryd.underlying22 hi hsz g n cap (bcells xs) hown ad m c (bcells ys) (by rw [bcells_len]; omega) (news_of_rd hR) (bcells_one ys) hfit
  exact ⟨w', h1, by rw [bcells_append]; exact h2, h3⟩
theorem step_append_fit {ops : Array Oper} {o : Oper} {a : Act} {w : World} {K : Act → World → Prop} {Q : Exit → Act → World → Prop} {E : Prop} {ts : Array Value} (hw : Region.wanted o (yielded ops ts) = true) (s x : Operand)
    (ho : o.op = .call { callee := .builtin .append, args := #[s, x], argTypes := #[22, 22] }) (base g n cap m c B : Nat) (xs ys : List Nat) (ad : Addr)
    (hs : a.eval s = .slice (some ⟨g, 0, none⟩) n cap) (hx : a.eval x = .slice (some ad) m c)
    (hown : w.ownsRow base 5 1 (.slice (some ⟨g, 0, none⟩) n cap) n (bcells xs)) (hR : Rd w B (some ad) ys) (hm : ys.length = m) (hfit : n + m ≤ cap)
    (k : ∀ w', w'.ownsRow base 5 1 (.slice (some ⟨g, 0, none⟩) (n + m) cap) (n + m) (bcells (xs ++ ys)) → w.grownBy w' (some g) → K (a.put o.dst (.slice (some ⟨g, 0, none⟩) (n + m) cap)) w') :
    if Region.wanted o (yielded ops ts) = true then Oper.wp Tryd.prog o a w K Q else E := by
  rw [if_pos hw]
  obtain ⟨w', hrun, h1, h2⟩ := run_append_fit base g n cap m c B o.type xs ys ad hown hR hm hfit
  unfold Oper.wp execOp
  simp only [ho, resolve, invoke, builtin, Sem.run_bind, Sem.run_pure, Result.andThen_ok, List.map_toArray, List.map_cons, List.map_nil, hs, hx, hrun]
  exact k w' h1 h2

theorem own_kept {w w' : World} {base g n cap : Nat} {xs : List Value} (h : w.ownsRow base 5 1 (.slice (some ⟨g, 0, none⟩) n cap) n xs) (e : w'.heap[g]? = w.heap[g]?) : w'.ownsRow base 5 1 (.slice (some ⟨g, 0, none⟩) n cap) n xs := by
  refine ⟨h.1, ?_⟩
  rcases h.2 with ⟨e1, _⟩ | ⟨g', c, cur, e1, hb, hc, rest⟩
  · cases e1
  · injection e1 with e2 _ e6
    have e3 : (⟨g, 0, none⟩ : Addr) = ⟨g', 0, none⟩ := Option.some.inj e2
    injection e3 with e4
    subst e4 e6
    exact .inr ⟨g, cap, cur, rfl, hb, e.trans hc, rest⟩
theorem calm_normal {Q : Exit → Act → World → Prop} {a : Act} {w : World} (h : Q .normal a w) : calm Q .normal a w := h
theorem expand_split {k info : List Nat} {kk L m N : Nat} (h : kk < 255) (hL : L = 32 * kk) (hm : m ≤ 32) (hN : L + m = N) : (upto k info 255).take N = upto k info kk ++ (piece k info (kk + 1)).take m := by
  rw [expand_take (i := kk + 1) (by omega) (by omega)]
  show (upto k info kk ++ piece k info (kk + 1)).take N = _
  rw [List.take_append, upto_len, List.take_of_length_le (by rw [upto_len]; omega), show N - 32 * kk = m by omega]
theorem slice_some (g n c m : Nat) (hm : m ≤ n) (hnc : n ≤ c) (hc : 0 < c) (w : World) : (Instr.slice 22 (.slice (some ⟨g, 0, none⟩) n c) none (some (.int .i64 (m : Int))) none).run Tryd.prog w = .ok (.slice (some ⟨g, 0, none⟩) m c) w := by
  have h1 : Tryd.prog.underlying 22 = some (.slice (Tryd.prog.elem 22)) := by kernel_rfl
  have h3 : Tryd.prog.elem 22 = 5 := by kernel_rfl
  have h4 : (Tryd.prog.info? 5).map (·.size) = some 1 := by kernel_rfl
  cases hq : Tryd.prog.info? 5 with
  | none => simp [hq] at h4
  | some i =>
    have hs1 : i.size = 1 := by simpa [hq] using h4
    rw [run_slice_h (a := some ⟨g, 0, none⟩) (len := n) (cap := c) (w := w) (t := 22) (ht := h1) .i64 (m : Int) (by omega) (by omega), h3]
    have e3 : ¬ c = 0 := by omega
    have e4 : (⟨g, 0, none⟩ : Addr).add 0 = ⟨g, 0, none⟩ := rfl
    simp [sizeOf, typeInfo, hq, hs1, sliced, e4]
/-- between two rounds -/
structure ExI (b0 B0 N : Nat) (k info : List Nat) (w : World) (pre : List (Nat × Nat)) (W : World) : Prop where
  more : pre = [] ∨ 32 * pre.length < N
  own : W.ownsRow w.heap.size 5 1 (.slice (some ⟨b0 + 1, 0, none⟩) (32 * pre.length) N) (32 * pre.length) (bcells (upto k info pre.length))
  box : W.cell? ⟨B0, 0, none⟩ = some (.slice (some ⟨b0 + 1, 0, none⟩) (32 * pre.length) N)
  free : W.frozen? ⟨B0, 0, none⟩ = false
  num : W.cell? ⟨b0, 0, none⟩ = some (.int .i64 (N : Int))
  below : Below w.heap.size w W
structure ExX (b0 B0 N : Nat) (out : List Nat) (w : World) (c : Code) (W : World) : Prop where
  code : c = .exit 0
  own : W.ownsRow w.heap.size 5 1 (.slice (some ⟨b0 + 1, 0, none⟩) N N) N (bcells out)
  box : W.cell? ⟨B0, 0, none⟩ = some (.slice (some ⟨b0 + 1, 0, none⟩) N N)
  below : Below w.heap.size w W
theorem frozen_of_block {w w' : World} {a : Addr} (h : w'.heap[a.block]? = w.heap[a.block]?) : w'.frozen? a = w.frozen? a := by
  unfold World.frozen?; rw [h]
theorem ExI.kept {b0 B0 N M : Nat} {k info : List Nat} {w : World} {pre : List (Nat × Nat)} {A B : World} (h : ExI b0 B0 N k info w pre A) (hk : Kept (fun k => k = M ∨ k = M + 1) A B) (h1 : b0 + 1 < M) (h2 : B0 < M) (hw : w.heap.size ≤ M) : ExI b0 B0 N k info w pre B := by
  have hlt := (h.own.lt _ rfl).2
  have hB := block_lt_of_cell h.box
  have hN := block_lt_of_cell h.num
  have e0 := hk.block (b0 + 1) hlt (by omega)
  have e1 := hk.block B0 hB (by omega)
  have e2 := hk.block b0 hN (by omega)
  exact ⟨h.more, own_kept h.own e0, (World.cell?_of_block (a := ⟨B0, 0, none⟩) e1).trans h.box, (frozen_of_block (a := ⟨B0, 0, none⟩) e1).trans h.free, (World.cell?_of_block (a := ⟨b0, 0, none⟩) e2).trans h.num, hk.below h.below (fun i e => by omega) h.below.size⟩
theorem ExX.kept {b0 B0 N M : Nat} {out : List Nat} {w : World} {c : Code} {A B : World} (h : ExX b0 B0 N out w c A) (hk : Kept (fun k => k = M ∨ k = M + 1) A B) (h1 : b0 + 1 < M) (h2 : B0 < M) (hw : w.heap.size ≤ M) : ExX b0 B0 N out w c B := by
  have hlt := (h.own.lt _ rfl).2
  have hB := block_lt_of_cell h.box
  have e0 := hk.block (b0 + 1) hlt (by omega)
  have e1 := hk.block B0 hB (by omega)
  exact ⟨h.code, own_kept h.own e0, (World.cell?_of_block (a := ⟨B0, 0, none⟩) e1).trans h.box, hk.below h.below (fun i e => by omega) h.below.size⟩
theorem pieceKn_kept {k info : List Nat} {B : Nat} {pre : List (Nat × Nat)} {x : Nat × Nat} {w w' : World} {X : Nat → Prop} (h : pieceKn k info B pre x w) (hk : Kept X w w') (hX : ∀ k, X k → k < B) : pieceKn k info B pre x w' :=
  ⟨h.1, h.2.1, h.2.2.1, h.2.2.2.kept hk hX⟩

set_option maxHeartbeats 1000000 in
theorem pieces_any (v1 v2 : Value) (w : World) (h1 : ∃ A n c, v1 = .slice A n c) (h2 : ∃ A n c, v2 = .slice A n c) :
    Calls Tryd.prog 24 #[v1, v2] w fun e w' => e = .returned (.func (.func 30) #[] #[.pointer (some ⟨w.heap.size, 0, none⟩), .pointer (some ⟨w.heap.size + 1, 0, none⟩)]) ∧ w' = (w.alloc (.cells #[v1] 22)).alloc (.cells #[v2] 22) := by
  obtain ⟨A, n, c, rfl⟩ := h1
  obtain ⟨A2, n2, c2, rfl⟩ := h2
  go_enter Tryd.func24, Tryd.ntmps24
  go_wp2
  go_ret
  exact ⟨rfl, rfl⟩

set_option maxHeartbeats 8000000 in
set_option maxRecDepth 100000 in
theorem expand_any (A A2 : Option Addr) (key info : List Nat) (n c n2 c2 N : Nat) (w : World) (hT : Tables w) (hR : Rd w w.heap.size A key) (hn : key.length = n) (hnc : n ≤ c) (hc : c ≤ 9223372036854775807) (hm : n ≤ 100000)
    (hR2 : Rd w w.heap.size A2 info) (hn2 : info.length = n2) (hnc2 : n2 ≤ c2) (hc2 : c2 ≤ 9223372036854775807) (hm2 : n2 ≤ 100000) (hN : N ≤ 8160) :
    Calls Tryd.prog 13 #[.slice A n c, .slice A2 n2 c2, .int .i64 N] w fun e w' => ∃ h, e = .returned (.slice (some ⟨h, 0, none⟩) N N) ∧ w'.ownsRow w.heap.size 5 1 (.slice (some ⟨h, 0, none⟩) N N) N (bcells (expand key info N)) ∧ Below w.heap.size w w' := by
  have h2 := hT.lt
  have HT := Lib.hid hT; have HR := Lib.hid hR; have HR2 := Lib.hid hR2; have HN := Lib.hid (fun _ : Unit => hn); have HN2 := Lib.hid (fun _ : Unit => hn2); clear hT hR hR2 hn hn2
  obtain ⟨bi, hbi, hbz, hbs, hbb⟩ := byteInfo
  refine callsIn_wide.1 (callsIn_of_wp_marks (n := 0) Tryd.func13 rfl trivial (wpIn_wide.2 ?_) rfl)
  simp only [Tryd.ntmps13, List.size_toArray, List.length_cons, List.length_nil, Nat.reduceAdd, Nat.reduceSub, Array.replicate_succ, Array.replicate_zero, List.push_toArray, List.append_toArray, List.nil_append, List.cons_append]
  have hdec : decide ((0 : Int) ≤ (N : Int) ∧ (N : Int) ≤ 8160) = true := decide_eq_true ⟨by omega, by omega⟩
  go_wp2_with fail
  refine (asked_any _ _).mono ?_
  rintro e' w1 ⟨rfl, rfl⟩
  rw [hdec]
  clear hdec
  go_wp2_with (at_make; refine wpList_make_own _ rfl (.const (.int .i64 0)) (.tmp 12) 22 rfl w.heap.size 5 bi (.int .u8 0) 1 Tryd.underlying22 hbi hbz hbs .i64 .i64 (N : Int) N rfl rfl rfl (by rw [hbb]; omega) (by unfold maxLen; omega) (by simp) ?_)
  intro w2 hown2 hgrow2
  have HO2 := Lib.hid hown2
  have HBn := Lib.hid ((Below.refl w.heap.size w).alloc (Nat.le_refl _) (.cells #[.int .i64 (N : Int)] 3))
  have hsz0 : (w.alloc (.cells #[.int .i64 (N : Int)] 3)).heap.size = w.heap.size + 1 := by simp
  have hcN : w2.cell? ⟨w.heap.size, 0, none⟩ = some (.int .i64 (N : Int)) := by
    rw [World.cell?_of_block (w := w.alloc (.cells #[.int .i64 (N : Int)] 3)) (a := ⟨w.heap.size, 0, none⟩) (hgrow2.block w.heap.size (by omega) (by simp)), cell_of_row _ _ 0 _ 3 (0, 0) (heap_alloc_last w _)]; rfl
  have HB2 := Lib.hid (HBn.out.grown hgrow2 HBn.out.size (fun k e => by cases e))
  have hlt2 := hown2.lt _ rfl
  have hsz2 : w.heap.size + 1 < w2.heap.size := hlt2.2
  clear hown2 hgrow2 hlt2 HBn hsz0
  have HO3 := Lib.hid (own_below HO2.out ((Below.refl w2.heap.size w2).alloc (Nat.le_refl _) (.cells #[.slice (some ⟨w.heap.size + 1, 0, none⟩) 0 N] 22)) (Nat.le_refl _))
  have HB3 := Lib.hid (HB2.out.alloc HB2.out.size (.cells #[.slice (some ⟨w.heap.size + 1, 0, none⟩) 0 N] 22))
  go_wp2_with fail
  refine (pieces_any _ _ _ ⟨_, _, _, rfl⟩ ⟨_, _, _, rfl⟩).mono ?_
  rintro e' w4 ⟨rfl, rfl⟩
  go_wp2_with fail
  have hsize : (((w2.alloc (.cells #[.slice (some ⟨w.heap.size + 1, 0, none⟩) 0 N] 22)).alloc (.cells #[.slice A n c] 22)).alloc (.cells #[.slice A2 n2 c2] 22)).heap.size = w2.heap.size + 3 := by simp
  have hl1 := heap_alloc_last w2 (.cells #[.slice (some ⟨w.heap.size + 1, 0, none⟩) 0 N] 22)
  have hl2 := heap_alloc_last (w2.alloc (.cells #[.slice (some ⟨w.heap.size + 1, 0, none⟩) 0 N] 22)) (.cells #[.slice A n c] 22)
  have hl3 := heap_alloc_last ((w2.alloc (.cells #[.slice (some ⟨w.heap.size + 1, 0, none⟩) 0 N] 22)).alloc (.cells #[.slice A n c] 22)) (.cells #[.slice A2 n2 c2] 22)
  rw [show (w2.alloc (.cells #[.slice (some ⟨w.heap.size + 1, 0, none⟩) 0 N] 22)).heap.size = w2.heap.size + 1 by simp] at hl2
  rw [show ((w2.alloc (.cells #[.slice (some ⟨w.heap.size + 1, 0, none⟩) 0 N] 22)).alloc (.cells #[.slice A n c] 22)).heap.size = w2.heap.size + 2 by simp] at hl3
  have hb23 : Below (w2.heap.size + 1) (w2.alloc (.cells #[.slice (some ⟨w.heap.size + 1, 0, none⟩) 0 N] 22)) (((w2.alloc (.cells #[.slice (some ⟨w.heap.size + 1, 0, none⟩) 0 N] 22)).alloc (.cells #[.slice A n c] 22)).alloc (.cells #[.slice A2 n2 c2] 22)) := ((Below.refl _ _).alloc (by simp) _).alloc (by simp) _
  have hb3 : Below (w2.heap.size + 2) ((w2.alloc (.cells #[.slice (some ⟨w.heap.size + 1, 0, none⟩) 0 N] 22)).alloc (.cells #[.slice A n c] 22)) (((w2.alloc (.cells #[.slice (some ⟨w.heap.size + 1, 0, none⟩) 0 N] 22)).alloc (.cells #[.slice A n c] 22)).alloc (.cells #[.slice A2 n2 c2] 22)) := (Below.refl _ _).alloc (by simp) _
  have hbA : Below w2.heap.size w2 (((w2.alloc (.cells #[.slice (some ⟨w.heap.size + 1, 0, none⟩) 0 N] 22)).alloc (.cells #[.slice A n c] 22)).alloc (.cells #[.slice A2 n2 c2] 22)) := (((Below.refl _ _).alloc (Nat.le_refl _) _).alloc (by simp) _).alloc (by simp; omega) _
  generalize ((w2.alloc (.cells #[.slice (some ⟨w.heap.size + 1, 0, none⟩) 0 N] 22)).alloc (.cells #[.slice A n c] 22)).alloc (.cells #[.slice A2 n2 c2] 22) = W0 at *
  have e1 := (hb23.block w2.heap.size (by omega)).trans hl1
  have e2 := (hb3.block (w2.heap.size + 1) (by omega)).trans hl2
  have HBOX : Hid (W0.cell? ⟨w2.heap.size, 0, none⟩ = some (.slice (some ⟨w.heap.size + 1, 0, none⟩) 0 N)) := Lib.hid (by rw [cell_of_row _ _ 0 _ 22 (0, 0) e1]; rfl)
  have HFRZ : Hid (W0.frozen? ⟨w2.heap.size, 0, none⟩ = false) := Lib.hid (by simp [World.frozen?, e1])
  have HBK : Hid (W0.cell? ⟨w2.heap.size + 1, 0, none⟩ = some (.slice A n c)) := Lib.hid (by rw [cell_of_row _ _ 0 _ 22 (0, 0) e2]; rfl)
  have HBI : Hid (W0.cell? ⟨w2.heap.size + 1 + 1, 0, none⟩ = some (.slice A2 n2 c2)) := Lib.hid (by rw [cell_of_row _ _ 0 _ 22 (0, 0) hl3]; rfl)
  have HB0 := Lib.hid (HB2.out.trans (hbA.mono HB2.out.size))
  have HOW := Lib.hid (own_below HO2.out hbA (Nat.le_refl _))
  have HNUM := Lib.hid ((hbA.cell (p := ⟨w.heap.size, 0, none⟩) (by show w.heap.size < _; omega)).trans hcN)
  clear hl1 hl2 hl3 hb23 hb3 hbA e1 e2 HO3 HB3 HO2 hcN HB2
  generalize w2.heap.size = B0 at *
  have HS0 := Lib.hid hsize
  refine wpIn_wide.1 (wp_range_hands (P := Tryd.prog) (gf := 30) (lb := #[.pointer (some ⟨B0 + 1, 0, none⟩), .pointer (some ⟨B0 + 1 + 1, 0, none⟩)]) rfl (enters_of Tryd.func30 (by kernel_rfl) rfl)
    (encs := pieceEncs) (fun k => k = w.heap.size + 1 ∨ k = B0) (fun k e => by rcases e with e | e <;> omega)
    (pieces_hands w.heap.size (B0 + 1) (B0 + 1 + 1) A A2 key info n c n2 c2 _ W0 (HT.out.below HB0.out h2) h2 (by omega) (fun k e => by omega) HBK.out HBI.out (HR.out.below HB0.out) (HN.out ()) hnc hc hm (HR2.out.below HB0.out) (HN2.out ()) hnc2 hc2 hm2)
    (fun x => rfl) (fun pre x A B h hk => pieceKn_kept h hk fun k e => by omega)
    (ExI w.heap.size B0 N (blockK key) info w) (fun c _ => ExX w.heap.size B0 N (expand key info N) w c)
    (fun pre A B h hk => h.kept hk (by omega) (by omega) (by omega)) (fun c pre A B h hk => h.kept hk (by omega) (by omega) (by omega))
    ⟨.inl rfl, HOW.out, HBOX.out, HFRZ.out, HNUM.out, HB0.out⟩
    (fun x => { tmps := #[.slice A n c, .slice A2 n2 c2, .int .i64 N, undef, undef, .pointer (some ⟨w.heap.size, 0, none⟩), .slice none 0 0, .pointer (some ⟨B0, 0, none⟩), .slice (some ⟨x.1, 0, none⟩) 32 x.2, .int .i64 N, .bool true, .bool false, .int .i64 N, .slice (some ⟨w.heap.size + 1, 0, none⟩) 0 N, .slice A n c, .slice A2 n2 c2, .func (.func 30) #[] #[.pointer (some ⟨B0 + 1, 0, none⟩), .pointer (some ⟨B0 + 1 + 1, 0, none⟩)], .slice (some ⟨x.1, 0, none⟩) 32 x.2, undef, undef, undef, undef, undef, undef, undef, undef, undef, undef, undef, undef, undef, undef, undef, undef], defers := [] }) ?assign ?body ?done ?stop)
  case assign =>
    intro l x W K hK
    simp only [pieceEncs]
    gi_wp2
    exact hK
  case body =>
    rintro l pre ⟨g, cp⟩ W hszW hI ⟨h255, hc32, hcm, hF⟩
    dsimp only at hc32 hcm hF
    have hmore := hI.more
    have HOI := Lib.hid hI.own; have HBXI := Lib.hid hI.box; have HFI := Lib.hid hI.free; have HNI := Lib.hid hI.num; have HBI2 := Lib.hid hI.below
    have HFR := Lib.hid hF
    have HMO := Lib.hid hmore
    clear hI hF hmore
    generalize hpl : pre.length = kk at *
    have HPL := Lib.hid (fun _ : Unit => hpl)
    clear hpl
    have h32 : 32 * kk ≤ N := by
      rcases HMO.out with e | e
      · rw [e] at HPL; have := HPL.out (); simp at this; omega
      · omega
    obtain ⟨L, hL⟩ : ∃ L, L = 32 * kk := ⟨_, rfl⟩
    rw [← hL] at HOI HBXI
    have HLE := Lib.hid (fun _ : Unit => hL)
    have h33 : L ≤ N := by omega
    have h34 : 32 * kk ≤ L := by omega
    have h35 : L ≤ 32 * kk := by omega
    clear hL h32
    obtain ⟨r, hr, hr'⟩ : ∃ r : Nat, L + r ≤ N ∧ N ≤ L + r := ⟨N - L, by omega, by omega⟩
    obtain ⟨m, hmm, hm32, hmr, hmpos⟩ : ∃ m : Nat, m = min 32 r ∧ m ≤ 32 ∧ m ≤ r ∧ (m = r ∨ m = 32) := ⟨min 32 r, rfl, by omega, by omega, by omega⟩
    gi_wp2_with fail
    refine region_drawn_in (plain_round _ l) (by kernel_rfl) (by kernel_rfl) ?_
    have HOI1 := Lib.hid (HOI.out.drew)
    have HBI3 := Lib.hid (Below.drew HBI2.out)
    have HBX1 := Lib.hid (show W.drew.cell? ⟨B0, 0, none⟩ = _ from HBXI.out)
    have HN1 := Lib.hid (show W.drew.cell? ⟨w.heap.size, 0, none⟩ = _ from HNI.out)
    have HF1 := Lib.hid (show W.drew.frozen? ⟨B0, 0, none⟩ = _ from HFI.out)
    have HFR1 := Lib.hid (HFR.out.kept (Kept.drew (X := fun _ => False) W) fun k e => e.elim)
    have HKW := Lib.hid (Kept.drew (X := fun k => k = w.heap.size + 1 ∨ k = B0) W)
    generalize W.drew = wd at *
    have x1 : IntKind.i64.wrap (r : Int) = (r : Int) := by rw [IntKind.wrap_i64]; omega
    have x2 : (N : Int) - (L : Int) = (r : Int) := by omega
    have x3 : (if (r : Int) < 32 then (r : Int) else 32) = (m : Int) := by split <;> omega
    have HMM := Lib.hid (fun _ : Unit => hmm)
    clear hmm
    have hsl := slice_some g 32 cp m hm32 hc32 (by omega)
    --REGION
    have b0 := HBX1.out
    have b1 := HN1.out
    refine wpAny_take (i := 1) (v := ?v1n1) rfl (by kernel_rfl) (by kernel_rfl) (by kernel_rfl) (fun _ _ _ h => h) (Or.inl ⟨by rfl, ?y1n1⟩) ?r1n1
    case y1n1 => (intro w'; go_simp; try with_reducible rfl)
    simp only [List.getElem_toArray, List.getElem_cons_succ, List.getElem_cons_zero, Act.put, List.setIfInBounds_toArray, List.set_cons_zero, List.set_cons_succ]
    refine wpAny_take (i := 2) (v := ?v2n2) rfl (by kernel_rfl) (by kernel_rfl) (by kernel_rfl) (fun _ _ _ h => h) (Or.inl ⟨by rfl, ?y2n2⟩) ?r2n2
    case y2n2 => (intro w'; go_simp; try with_reducible rfl)
    simp only [List.getElem_toArray, List.getElem_cons_succ, List.getElem_cons_zero, Act.put, List.setIfInBounds_toArray, List.set_cons_zero, List.set_cons_succ]
    refine wpAny_take (i := 3) (v := ?v3n3) rfl (by kernel_rfl) (by kernel_rfl) (by kernel_rfl) (fun _ _ _ h => h) (Or.inl ⟨by rfl, ?y3n3⟩) ?r3n3
    case y3n3 => (intro w'; go_simp; try with_reducible rfl)
    simp only [List.getElem_toArray, List.getElem_cons_succ, List.getElem_cons_zero, Act.put, List.setIfInBounds_toArray, List.set_cons_zero, List.set_cons_succ]
    refine have tail : ∀ listed : Array Bool, listed = #[true, true, true, true, true, true, true, true, true, true, false, false] → wpAny ?tP ?tm ?to ?tQ 2 listed ?ta ?tw := ?tl; ?tmain
    case tmain =>
      refine wpAny_ready (rs := [0, 4, 5]) (by kernel_rfl) (by simp) ?_
      refine (AllReady.cons rfl (fun K hK => ?_) (AllReady.cons rfl (fun K hK => ?_) (AllReady.cons rfl (fun K hK => ?_) AllReady.nil)))
      · simp only [List.getElem_toArray, List.getElem_cons_succ, List.getElem_cons_zero]
        go_simp
        refine hK _ _ ?_
        clear hK K
        try simp only [List.getElem_toArray, List.getElem_cons_succ, List.getElem_cons_zero, Act.put, List.setIfInBounds_toArray, List.set_cons_zero, List.set_cons_succ]
        refine wpAny_ready (rs := [4, 5]) (by kernel_rfl) (by simp) ?_
        refine (AllReady.cons rfl (fun K hK => ?_) (AllReady.cons rfl (fun K hK => ?_) AllReady.nil))
        · simp only [List.getElem_toArray, List.getElem_cons_succ, List.getElem_cons_zero]
          go_simp
          refine hK _ _ ?_
          clear hK K
          try simp only [List.getElem_toArray, List.getElem_cons_succ, List.getElem_cons_zero, Act.put, List.setIfInBounds_toArray, List.set_cons_zero, List.set_cons_succ]
          refine wpAny_ready (rs := [5]) (by kernel_rfl) (by simp) ?_
          refine (AllReady.cons rfl (fun K hK => ?_) AllReady.nil)
          · simp only [List.getElem_toArray, List.getElem_cons_succ, List.getElem_cons_zero]
            go_simp
            refine hK _ _ ?_
            clear hK K
            try simp only [List.getElem_toArray, List.getElem_cons_succ, List.getElem_cons_zero, Act.put, List.setIfInBounds_toArray, List.set_cons_zero, List.set_cons_succ]
            refine wpAny_take (i := 6) (v := ?v6n4) rfl (by kernel_rfl) (by kernel_rfl) (by kernel_rfl) (fun _ _ _ h => h) (Or.inl ⟨by rfl, ?y6n4⟩) ?r6n4
            case y6n4 => (intro w'; go_simp; try with_reducible rfl)
            simp only [List.getElem_toArray, List.getElem_cons_succ, List.getElem_cons_zero, Act.put, List.setIfInBounds_toArray, List.set_cons_zero, List.set_cons_succ]
            refine wpAny_take (i := 7) (v := ?v7n5) rfl (by kernel_rfl) (by kernel_rfl) (by kernel_rfl) (fun _ _ _ h => h) (Or.inl ⟨by rfl, ?y7n5⟩) ?r7n5
            case y7n5 => (intro w'; go_simp; try with_reducible rfl)
            simp only [List.getElem_toArray, List.getElem_cons_succ, List.getElem_cons_zero, Act.put, List.setIfInBounds_toArray, List.set_cons_zero, List.set_cons_succ]
            refine wpAny_take (i := 8) (v := ?v8n6) rfl (by kernel_rfl) (by kernel_rfl) (by kernel_rfl) (fun _ _ _ h => h) (Or.inl ⟨by rfl, ?y8n6⟩) ?r8n6
            case y8n6 => (intro w'; go_simp; try with_reducible rfl)
            simp only [List.getElem_toArray, List.getElem_cons_succ, List.getElem_cons_zero, Act.put, List.setIfInBounds_toArray, List.set_cons_zero, List.set_cons_succ]
            refine wpAny_take (i := 9) (v := ?v9n7) rfl (by kernel_rfl) (by kernel_rfl) (by kernel_rfl) (fun _ _ _ h => h) (Or.inl ⟨by rfl, ?y9n7⟩) ?r9n7
            case y9n7 => (intro w'; go_simp; try with_reducible rfl)
            simp only [List.getElem_toArray, List.getElem_cons_succ, List.getElem_cons_zero, Act.put, List.setIfInBounds_toArray, List.set_cons_zero, List.set_cons_succ]
            exact tail _ (by kernel_rfl)
        · simp only [List.getElem_toArray, List.getElem_cons_succ, List.getElem_cons_zero]
          go_simp
          refine hK _ _ ?_
          clear hK K
          try simp only [List.getElem_toArray, List.getElem_cons_succ, List.getElem_cons_zero, Act.put, List.setIfInBounds_toArray, List.set_cons_zero, List.set_cons_succ]
          refine wpAny_take (i := 6) (v := ?v6n8) rfl (by kernel_rfl) (by kernel_rfl) (by kernel_rfl) (fun _ _ _ h => h) (Or.inl ⟨by rfl, ?y6n8⟩) ?r6n8
          case y6n8 => (intro w'; go_simp; try with_reducible rfl)
          simp only [List.getElem_toArray, List.getElem_cons_succ, List.getElem_cons_zero, Act.put, List.setIfInBounds_toArray, List.set_cons_zero, List.set_cons_succ]
          refine wpAny_ready (rs := [4]) (by kernel_rfl) (by simp) ?_
          refine (AllReady.cons rfl (fun K hK => ?_) AllReady.nil)
          · simp only [List.getElem_toArray, List.getElem_cons_succ, List.getElem_cons_zero]
            go_simp
            refine hK _ _ ?_
            clear hK K
            try simp only [List.getElem_toArray, List.getElem_cons_succ, List.getElem_cons_zero, Act.put, List.setIfInBounds_toArray, List.set_cons_zero, List.set_cons_succ]
            refine wpAny_take (i := 7) (v := ?v7n9) rfl (by kernel_rfl) (by kernel_rfl) (by kernel_rfl) (fun _ _ _ h => h) (Or.inl ⟨by rfl, ?y7n9⟩) ?r7n9
            case y7n9 => (intro w'; go_simp; try with_reducible rfl)
            simp only [List.getElem_toArray, List.getElem_cons_succ, List.getElem_cons_zero, Act.put, List.setIfInBounds_toArray, List.set_cons_zero, List.set_cons_succ]
            refine wpAny_take (i := 8) (v := ?v8n10) rfl (by kernel_rfl) (by kernel_rfl) (by kernel_rfl) (fun _ _ _ h => h) (Or.inl ⟨by rfl, ?y8n10⟩) ?r8n10
            case y8n10 => (intro w'; go_simp; try with_reducible rfl)
            simp only [List.getElem_toArray, List.getElem_cons_succ, List.getElem_cons_zero, Act.put, List.setIfInBounds_toArray, List.set_cons_zero, List.set_cons_succ]
            refine wpAny_take (i := 9) (v := ?v9n11) rfl (by kernel_rfl) (by kernel_rfl) (by kernel_rfl) (fun _ _ _ h => h) (Or.inl ⟨by rfl, ?y9n11⟩) ?r9n11
            case y9n11 => (intro w'; go_simp; try with_reducible rfl)
            simp only [List.getElem_toArray, List.getElem_cons_succ, List.getElem_cons_zero, Act.put, List.setIfInBounds_toArray, List.set_cons_zero, List.set_cons_succ]
            exact tail _ (by kernel_rfl)
      · simp only [List.getElem_toArray, List.getElem_cons_succ, List.getElem_cons_zero]
        go_simp
        refine hK _ _ ?_
        clear hK K
        try simp only [List.getElem_toArray, List.getElem_cons_succ, List.getElem_cons_zero, Act.put, List.setIfInBounds_toArray, List.set_cons_zero, List.set_cons_succ]
        refine wpAny_ready (rs := [0, 5]) (by kernel_rfl) (by simp) ?_
        refine (AllReady.cons rfl (fun K hK => ?_) (AllReady.cons rfl (fun K hK => ?_) AllReady.nil))
        · simp only [List.getElem_toArray, List.getElem_cons_succ, List.getElem_cons_zero]
          go_simp
          refine hK _ _ ?_
          clear hK K
          try simp only [List.getElem_toArray, List.getElem_cons_succ, List.getElem_cons_zero, Act.put, List.setIfInBounds_toArray, List.set_cons_zero, List.set_cons_succ]
          refine wpAny_ready (rs := [5]) (by kernel_rfl) (by simp) ?_
          refine (AllReady.cons rfl (fun K hK => ?_) AllReady.nil)
          · simp only [List.getElem_toArray, List.getElem_cons_succ, List.getElem_cons_zero]
            go_simp
            refine hK _ _ ?_
            clear hK K
            try simp only [List.getElem_toArray, List.getElem_cons_succ, List.getElem_cons_zero, Act.put, List.setIfInBounds_toArray, List.set_cons_zero, List.set_cons_succ]
            refine wpAny_take (i := 6) (v := ?v6n12) rfl (by kernel_rfl) (by kernel_rfl) (by kernel_rfl) (fun _ _ _ h => h) (Or.inl ⟨by rfl, ?y6n12⟩) ?r6n12
            case y6n12 => (intro w'; go_simp; try with_reducible rfl)
            simp only [List.getElem_toArray, List.getElem_cons_succ, List.getElem_cons_zero, Act.put, List.setIfInBounds_toArray, List.set_cons_zero, List.set_cons_succ]
            refine wpAny_take (i := 7) (v := ?v7n13) rfl (by kernel_rfl) (by kernel_rfl) (by kernel_rfl) (fun _ _ _ h => h) (Or.inl ⟨by rfl, ?y7n13⟩) ?r7n13
            case y7n13 => (intro w'; go_simp; try with_reducible rfl)
            simp only [List.getElem_toArray, List.getElem_cons_succ, List.getElem_cons_zero, Act.put, List.setIfInBounds_toArray, List.set_cons_zero, List.set_cons_succ]
            refine wpAny_take (i := 8) (v := ?v8n14) rfl (by kernel_rfl) (by kernel_rfl) (by kernel_rfl) (fun _ _ _ h => h) (Or.inl ⟨by rfl, ?y8n14⟩) ?r8n14
            case y8n14 => (intro w'; go_simp; try with_reducible rfl)
            simp only [List.getElem_toArray, List.getElem_cons_succ, List.getElem_cons_zero, Act.put, List.setIfInBounds_toArray, List.set_cons_zero, List.set_cons_succ]
            refine wpAny_take (i := 9) (v := ?v9n15) rfl (by kernel_rfl) (by kernel_rfl) (by kernel_rfl) (fun _ _ _ h => h) (Or.inl ⟨by rfl, ?y9n15⟩) ?r9n15
            case y9n15 => (intro w'; go_simp; try with_reducible rfl)
            simp only [List.getElem_toArray, List.getElem_cons_succ, List.getElem_cons_zero, Act.put, List.setIfInBounds_toArray, List.set_cons_zero, List.set_cons_succ]
            exact tail _ (by kernel_rfl)
        · simp only [List.getElem_toArray, List.getElem_cons_succ, List.getElem_cons_zero]
          go_simp
          refine hK _ _ ?_
          clear hK K
          try simp only [List.getElem_toArray, List.getElem_cons_succ, List.getElem_cons_zero, Act.put, List.setIfInBounds_toArray, List.set_cons_zero, List.set_cons_succ]
          refine wpAny_take (i := 6) (v := ?v6n16) rfl (by kernel_rfl) (by kernel_rfl) (by kernel_rfl) (fun _ _ _ h => h) (Or.inl ⟨by rfl, ?y6n16⟩) ?r6n16
          case y6n16 => (intro w'; go_simp; try with_reducible rfl)
          simp only [List.getElem_toArray, List.getElem_cons_succ, List.getElem_cons_zero, Act.put, List.setIfInBounds_toArray, List.set_cons_zero, List.set_cons_succ]
          refine wpAny_take (i := 7) (v := ?v7n17) rfl (by kernel_rfl) (by kernel_rfl) (by kernel_rfl) (fun _ _ _ h => h) (Or.inl ⟨by rfl, ?y7n17⟩) ?r7n17
          case y7n17 => (intro w'; go_simp; try with_reducible rfl)
          simp only [List.getElem_toArray, List.getElem_cons_succ, List.getElem_cons_zero, Act.put, List.setIfInBounds_toArray, List.set_cons_zero, List.set_cons_succ]
          refine wpAny_take (i := 8) (v := ?v8n18) rfl (by kernel_rfl) (by kernel_rfl) (by kernel_rfl) (fun _ _ _ h => h) (Or.inl ⟨by rfl, ?y8n18⟩) ?r8n18
          case y8n18 => (intro w'; go_simp; try with_reducible rfl)
          simp only [List.getElem_toArray, List.getElem_cons_succ, List.getElem_cons_zero, Act.put, List.setIfInBounds_toArray, List.set_cons_zero, List.set_cons_succ]
          refine wpAny_take (i := 9) (v := ?v9n19) rfl (by kernel_rfl) (by kernel_rfl) (by kernel_rfl) (fun _ _ _ h => h) (Or.inl ⟨by rfl, ?y9n19⟩) ?r9n19
          case y9n19 => (intro w'; go_simp; try with_reducible rfl)
          simp only [List.getElem_toArray, List.getElem_cons_succ, List.getElem_cons_zero, Act.put, List.setIfInBounds_toArray, List.set_cons_zero, List.set_cons_succ]
          refine wpAny_ready (rs := [0]) (by kernel_rfl) (by simp) ?_
          refine (AllReady.cons rfl (fun K hK => ?_) AllReady.nil)
          · simp only [List.getElem_toArray, List.getElem_cons_succ, List.getElem_cons_zero]
            go_simp
            refine hK _ _ ?_
            clear hK K
            try simp only [List.getElem_toArray, List.getElem_cons_succ, List.getElem_cons_zero, Act.put, List.setIfInBounds_toArray, List.set_cons_zero, List.set_cons_succ]
            exact tail _ (by kernel_rfl)
      · simp only [List.getElem_toArray, List.getElem_cons_succ, List.getElem_cons_zero]
        go_simp
        refine hK _ _ ?_
        clear hK K
        try simp only [List.getElem_toArray, List.getElem_cons_succ, List.getElem_cons_zero, Act.put, List.setIfInBounds_toArray, List.set_cons_zero, List.set_cons_succ]
        refine wpAny_take (i := 6) (v := ?v6n20) rfl (by kernel_rfl) (by kernel_rfl) (by kernel_rfl) (fun _ _ _ h => h) (Or.inl ⟨by rfl, ?y6n20⟩) ?r6n20
        case y6n20 => (intro w'; go_simp; try with_reducible rfl)
        simp only [List.getElem_toArray, List.getElem_cons_succ, List.getElem_cons_zero, Act.put, List.setIfInBounds_toArray, List.set_cons_zero, List.set_cons_succ]
        refine wpAny_ready (rs := [0, 4]) (by kernel_rfl) (by simp) ?_
        refine (AllReady.cons rfl (fun K hK => ?_) (AllReady.cons rfl (fun K hK => ?_) AllReady.nil))
        · simp only [List.getElem_toArray, List.getElem_cons_succ, List.getElem_cons_zero]
          go_simp
          refine hK _ _ ?_
          clear hK K
          try simp only [List.getElem_toArray, List.getElem_cons_succ, List.getElem_cons_zero, Act.put, List.setIfInBounds_toArray, List.set_cons_zero, List.set_cons_succ]
          refine wpAny_ready (rs := [4]) (by kernel_rfl) (by simp) ?_
          refine (AllReady.cons rfl (fun K hK => ?_) AllReady.nil)
          · simp only [List.getElem_toArray, List.getElem_cons_succ, List.getElem_cons_zero]
            go_simp
            refine hK _ _ ?_
            clear hK K
            try simp only [List.getElem_toArray, List.getElem_cons_succ, List.getElem_cons_zero, Act.put, List.setIfInBounds_toArray, List.set_cons_zero, List.set_cons_succ]
            refine wpAny_take (i := 7) (v := ?v7n21) rfl (by kernel_rfl) (by kernel_rfl) (by kernel_rfl) (fun _ _ _ h => h) (Or.inl ⟨by rfl, ?y7n21⟩) ?r7n21
            case y7n21 => (intro w'; go_simp; try with_reducible rfl)
            simp only [List.getElem_toArray, List.getElem_cons_succ, List.getElem_cons_zero, Act.put, List.setIfInBounds_toArray, List.set_cons_zero, List.set_cons_succ]
            refine wpAny_take (i := 8) (v := ?v8n22) rfl (by kernel_rfl) (by kernel_rfl) (by kernel_rfl) (fun _ _ _ h => h) (Or.inl ⟨by rfl, ?y8n22⟩) ?r8n22
            case y8n22 => (intro w'; go_simp; try with_reducible rfl)
            simp only [List.getElem_toArray, List.getElem_cons_succ, List.getElem_cons_zero, Act.put, List.setIfInBounds_toArray, List.set_cons_zero, List.set_cons_succ]
            refine wpAny_take (i := 9) (v := ?v9n23) rfl (by kernel_rfl) (by kernel_rfl) (by kernel_rfl) (fun _ _ _ h => h) (Or.inl ⟨by rfl, ?y9n23⟩) ?r9n23
            case y9n23 => (intro w'; go_simp; try with_reducible rfl)
            simp only [List.getElem_toArray, List.getElem_cons_succ, List.getElem_cons_zero, Act.put, List.setIfInBounds_toArray, List.set_cons_zero, List.set_cons_succ]
            exact tail _ (by kernel_rfl)
        · simp only [List.getElem_toArray, List.getElem_cons_succ, List.getElem_cons_zero]
          go_simp
          refine hK _ _ ?_
          clear hK K
          try simp only [List.getElem_toArray, List.getElem_cons_succ, List.getElem_cons_zero, Act.put, List.setIfInBounds_toArray, List.set_cons_zero, List.set_cons_succ]
          refine wpAny_take (i := 7) (v := ?v7n24) rfl (by kernel_rfl) (by kernel_rfl) (by kernel_rfl) (fun _ _ _ h => h) (Or.inl ⟨by rfl, ?y7n24⟩) ?r7n24
          case y7n24 => (intro w'; go_simp; try with_reducible rfl)
          simp only [List.getElem_toArray, List.getElem_cons_succ, List.getElem_cons_zero, Act.put, List.setIfInBounds_toArray, List.set_cons_zero, List.set_cons_succ]
          refine wpAny_take (i := 8) (v := ?v8n25) rfl (by kernel_rfl) (by kernel_rfl) (by kernel_rfl) (fun _ _ _ h => h) (Or.inl ⟨by rfl, ?y8n25⟩) ?r8n25
          case y8n25 => (intro w'; go_simp; try with_reducible rfl)
          simp only [List.getElem_toArray, List.getElem_cons_succ, List.getElem_cons_zero, Act.put, List.setIfInBounds_toArray, List.set_cons_zero, List.set_cons_succ]
          refine wpAny_take (i := 9) (v := ?v9n26) rfl (by kernel_rfl) (by kernel_rfl) (by kernel_rfl) (fun _ _ _ h => h) (Or.inl ⟨by rfl, ?y9n26⟩) ?r9n26
          case y9n26 => (intro w'; go_simp; try with_reducible rfl)
          simp only [List.getElem_toArray, List.getElem_cons_succ, List.getElem_cons_zero, Act.put, List.setIfInBounds_toArray, List.set_cons_zero, List.set_cons_succ]
          refine wpAny_ready (rs := [0]) (by kernel_rfl) (by simp) ?_
          refine (AllReady.cons rfl (fun K hK => ?_) AllReady.nil)
          · simp only [List.getElem_toArray, List.getElem_cons_succ, List.getElem_cons_zero]
            go_simp
            refine hK _ _ ?_
            clear hK K
            try simp only [List.getElem_toArray, List.getElem_cons_succ, List.getElem_cons_zero, Act.put, List.setIfInBounds_toArray, List.set_cons_zero, List.set_cons_succ]
            exact tail _ (by kernel_rfl)
    case tl =>
      rintro _ rfl
      refine wpAny_ready (rs := [10]) (by kernel_rfl) (by simp) ?_
      refine AllReady.cons rfl (fun K hK => ?_) AllReady.nil
      simp only [List.getElem_toArray, List.getElem_cons_succ, List.getElem_cons_zero]
      refine step_append_fit ?hw (.tmp 18) (.tmp 27) rfl w.heap.size (w.heap.size + 1) L N m cp wd.heap.size (upto (blockK key) info kk) ((piece (blockK key) info (kk + 1)).take m) ⟨g, 0, none⟩ rfl rfl HOI1.out (HFR1.out.rd.upto m) (by rw [List.length_take, piece_len]; omega) (by omega) ?hk
      case hw => rfl
      case hk =>
        intro w5 hown5 hgrow5
        have HO5 := Lib.hid hown5
        have HK5 := Lib.hid (HKW.out.trans (Kept.of_grown (X := fun k => k = w.heap.size + 1 ∨ k = B0) hgrow5 (fun r e => .inl (Option.some.inj e).symm)))
        have HB5 := Lib.hid (below_of_only HBI3.out hgrow5 (by omega))
        have c5 := (World.cell?_of_block (a := ⟨B0, 0, none⟩) (hgrow5.block B0 (block_lt_of_cell HBX1.out) (by intro e; have := Option.some.inj e; omega))).trans HBX1.out
        have f5 := (frozen_of_block (a := ⟨B0, 0, none⟩) (hgrow5.block B0 (block_lt_of_cell HBX1.out) (by intro e; have := Option.some.inj e; omega))).trans HF1.out
        have n5 := (World.cell?_of_block (a := ⟨w.heap.size, 0, none⟩) (hgrow5.block w.heap.size (block_lt_of_cell HN1.out) (by intro e; have := Option.some.inj e; omega))).trans HN1.out
        clear hown5 hgrow5
        refine hK _ _ ?_
        clear hK K
        try simp only [List.getElem_toArray, List.getElem_cons_succ, List.getElem_cons_zero, Act.put, List.setIfInBounds_toArray, List.set_cons_zero, List.set_cons_succ]
        refine wpAny_ready (rs := [11]) (by kernel_rfl) (by simp) ?_
        refine AllReady.cons rfl (fun K hK => ?_) AllReady.nil
        simp only [List.getElem_toArray, List.getElem_cons_succ, List.getElem_cons_zero]
        go_simp
        refine hK _ _ ?_
        clear hK K
        try simp only [List.getElem_toArray, List.getElem_cons_succ, List.getElem_cons_zero, Act.put, List.setIfInBounds_toArray, List.set_cons_zero, List.set_cons_succ]
        refine wpAny_done (by kernel_rfl) ?_ _
        refine calm_normal ?_
        have HO6 := Lib.hid (own_kept HO5.out (Below.heap_setCell w5 ⟨B0, 0, none⟩ (.slice (some ⟨w.heap.size + 1, 0, none⟩) (L + m) N) (w.heap.size + 1) (by show w.heap.size + 1 ≠ B0; omega)))
        have HK6 := Lib.hid (HK5.out.trans (Kept.of_grown (X := fun k => k = w.heap.size + 1 ∨ k = B0) (only_set (World.grownBy.refl w5 (some B0)) (p := ⟨B0, 0, none⟩) (.inl rfl) (.slice (some ⟨w.heap.size + 1, 0, none⟩) (L + m) N)) (fun r e => .inr (Option.some.inj e).symm)))
        have HB6 := Lib.hid (HB5.out.setCell (p := ⟨B0, 0, none⟩) (by show w.heap.size ≤ B0; omega) (.slice (some ⟨w.heap.size + 1, 0, none⟩) (L + m) N))
        have c6 : (w5.setCell ⟨B0, 0, none⟩ (.slice (some ⟨w.heap.size + 1, 0, none⟩) (L + m) N)).cell? ⟨B0, 0, none⟩ = some (.slice (some ⟨w.heap.size + 1, 0, none⟩) (L + m) N) := World.cell?_setCell_same' _ _ _ (by rw [c5]; rfl)
        have f6 : (w5.setCell ⟨B0, 0, none⟩ (.slice (some ⟨w.heap.size + 1, 0, none⟩) (L + m) N)).frozen? ⟨B0, 0, none⟩ = false := by rw [World.frozen?_setCell]; exact f5
        have n6 := (World.cell?_of_block (a := ⟨w.heap.size, 0, none⟩) (Below.heap_setCell w5 ⟨B0, 0, none⟩ (.slice (some ⟨w.heap.size + 1, 0, none⟩) (L + m) N) w.heap.size (by show w.heap.size ≠ B0; omega))).trans n5
        generalize w5.setCell ⟨B0, 0, none⟩ (.slice (some ⟨w.heap.size + 1, 0, none⟩) (L + m) N) = w6 at *
        clear c5 f5 n5 b0 b1 x1 x2 x3 hsl
        by_cases hfull : L + m = N
        · have hd : ((L : Int) + (m : Int) == (N : Int)) = true := by rw [beq_iff_eq]; omega
          have hd2 : (((L + m : Nat) : Int) == (N : Int)) = true := by rw [beq_iff_eq]; omega
          have HH := Lib.hid (fun _ : Unit => hfull)
          clear hfull
          gi_wp2
          have HSPL := expand_split (k := blockK key) (info := info) h255 (HLE.out ()) hm32 (HH.out ())
          refine ⟨HK6.out, rfl, ?_, ?_, HB6.out⟩
          · have := HO6.out
            rw [HH.out ()] at this
            unfold expand
            rw [HSPL]
            exact this
          · rw [c6, HH.out ()]
        · have hd : ((L : Int) + (m : Int) == (N : Int)) = false := by rw [beq_eq_false_iff_ne]; omega
          have hd2 : (((L + m : Nat) : Int) == (N : Int)) = false := by rw [beq_eq_false_iff_ne]; omega
          obtain rfl : m = 32 := by omega
          gi_wp2
          have hlen : (pre ++ [(g, cp)]).length = kk + 1 := by rw [List.length_append, HPL.out ()]; rfl
          refine ⟨HK6.out, .inr (by rw [hlen]; omega), ?_, ?_, f6, n6, HB6.out⟩
          · rw [hlen, show 32 * (kk + 1) = L + 32 by omega]
            have := HO6.out
            rw [List.take_of_length_le (by rw [piece_len]; omega)] at this
            exact this
          · rw [hlen, show 32 * (kk + 1) = L + 32 by omega]
            exact c6
    --END
  case done =>
    rintro xs W hS hI hD
    exfalso
    rcases hI.more with e | e
    · rw [e] at hS; cases hS
    · omega
  case stop =>
    rintro c' pre W _ hX hD
    obtain rfl := hX.code
    have HX := Lib.hid hX
    have c0 := hX.box
    clear hX
    refine wpIn_wide.2 ?_
    go_wp2
    refine ⟨by simp, .inl ⟨_, _, rfl, run_takeDeferred hD, ?_⟩⟩
    refine ⟨_, results_tmp rfl _ _ _, ?_⟩
    have hpb := (Below.refl w.heap.size W).grown (grownBy_putObj' W W0.heap.size (.deferred none)) HX.out.below.size (fun k e => by cases e; omega)
    refine ⟨w.heap.size + 1, rfl, own_kept HX.out.own ?_, HX.out.below.trans hpb⟩
    exact World.putObj_heap_other (by omega)
end Go.Proofs.YtfcnhendebjjeaaDoor.Sha
